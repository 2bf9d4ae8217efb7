/- slices' symMerge where the second piece is one pair. -/
import Derived.Test.YtldlhpokkidmlaaGreatDoorRotate
namespace Go.Proofs.YtldlhpokkidmlaaGreatDoor
open Go.RowKit

set_option maxRecDepth 200000 in
set_option maxHeartbeats 2000000 in
theorem symLast_any (g cap base N : Nat) (P L : List Pr) (y : Pr) (S : List Pr) (a m b : Nat) (w0 w : World) (ha : P.length = a) (hm : a + L.length = m) (hL : 2 ≤ L.length) (hb : m + 1 = b) (hs : sortedN L) (hN : N ≤ 1000000)
    (ho : Own w base (.slice (some ⟨g, 0, none⟩) N cap) (P ++ (L ++ (y :: S)))) (hbw : Below base w0 w) (hB0 : base ≤ w0.heap.size) :
    Calls Tryz.prog 88 #[.slice (some ⟨g, 0, none⟩) N cap, .int .i64 a, .int .i64 m, .int .i64 b, .func (.func 28) #[] #[]] w fun e w' => e = .returned (.tuple #[]) ∧ ∃ M, Merged L [y] M ∧ Own w' base (.slice (some ⟨g, 0, none⟩) N cap) (P ++ (M ++ S)) ∧ Below base w0 w' := by
  have hlen : b + S.length = N := by
    obtain ⟨_, _, e, _, _⟩ := ho.slice
    have := (Value.slice.inj e).2.1
    simp only [List.length_append, List.length_cons] at this
    omega
  have hbN : b ≤ N := by omega
  obtain ⟨n1, hn1⟩ : ∃ n, Hid (n = L.length) := ⟨_, rfl⟩
  have hw0 : IntKind.i64.wrap ((m : Int) - (a : Int)) = (n1 : Int) := by rw [IntKind.wrap_i64, hn1.out]; omega
  have hx0 : ((n1 : Int) == 1) = false := by rw [beq_eq_false_iff_ne, hn1.out]; omega
  have hw9 : IntKind.i64.wrap ((b : Int) - (m : Int)) = 1 := by rw [IntKind.wrap_i64]; omega
  have HA : Hid (P.length = a) := ha
  have HM : Hid (a + L.length = m) := hm
  have hmN : m < N := by omega
  have ham : a < m := by omega
  have hF : slid P y L S L.length = P ++ (L ++ (y :: S)) := by simp [slid]
  rw [← hF] at ho
  clear hlen ha hm hb hF hn1 hL
  go_enter Tryz.func88, Tryz.ntmps88
  go_wp2_with fail
  go_loopw [14, 15] (fun u v wr => ∃ i j : Nat, u = .int .i64 i ∧ v = .int .i64 j ∧ a ≤ i ∧ i ≤ j ∧ j ≤ m ∧ Hid (∀ e ∈ L.take (i - a), ¬ y.1 < e.1) ∧ Hid (∀ e ∈ L.drop (j - a), y.1 < e.1) ∧ Own wr base (.slice (some ⟨g, 0, none⟩) N cap) (slid P y L S L.length) ∧ Below base w0 wr) (fun u v _ => (intOf v).toNat - (intOf u).toNat)
  case atStart => exact ⟨a, m, rfl, rfl, Nat.le_refl _, by omega, Nat.le_refl _, (by show ∀ e ∈ L.take (a - a), _; simp), (by show ∀ e ∈ L.drop (m - a), _; rw [List.drop_of_length_le (by have := HM.out; omega)]; simp), ho, hbw⟩
  case round =>
    clear ho hbw
    obtain ⟨i, j, rfl, rfl, hai, hij, hjm, HI, HJ, O, B⟩ := hrel
    by_cases hlt : i < j
    · obtain ⟨h, HH⟩ : ∃ h, Hid (h = (i + j) / 2) := ⟨_, rfl⟩
      have hH : ((i : Int) + (j : Int)) / 2 = (h : Int) := by rw [HH.out]; omega
      have hih : i ≤ h := by rw [HH.out]; omega
      have hhj : h < j := by rw [HH.out]; omega
      have hq : h - a < L.length := by have := HM.out; omega
      have hhN : h < N := by omega
      have HL : Hid (y.1 < L[h - a].1 → ∀ e ∈ L.drop (h - a), y.1 < e.1) := fun k => drop_lt hs hq k
      have HG : Hid (¬ y.1 < L[h - a].1 → ∀ e ∈ L.take (h + 1 - a), ¬ y.1 < e.1) := fun k => by
        have := take_ge hs hq k
        rw [show h - a + 1 = h + 1 - a from by omega] at this
        exact this
      have EV : Hid ((slid P y L S L.length).getD h ([], []) = L[h - a]) := by
        show _ = _
        have e : slid P y L S L.length = P ++ (L ++ (y :: S)) := by simp [slid]
        have e2 : h = a + (h - a) := by omega
        conv => lhs; rw [e, e2]
        rw [getD_app HA.out (by simp; omega), List.getElem_append_left]
      obtain ⟨u, hu⟩ : ∃ u, u = y := ⟨_, rfl⟩
      have EU : Hid ((slid P y L S L.length).getD m ([], []) = u) := by
        show _ = _
        have e : slid P y L S L.length = (P ++ L) ++ (y :: S) := by simp [slid]
        have := getD_app (P := P ++ L) (R := y :: S) (a := m) (q := 0) (by have := HA.out; have := HM.out; simp; omega) (by simp)
        rw [e, hu]
        simpa using this
      generalize L[h - a] = v at *
      rw [← hu] at HL HG
      by_cases hc : u.1 < v.1
      · have hc' : Lib.compareBytes u.1 v.1 < 0 := by have := cmpB_lt u.1 v.1; rw [decide_eq_true hc, decide_eq_true_eq] at this; exact this
        have HR : Hid (∀ e ∈ L.drop (h - a), y.1 < e.1) := by rw [← hu]; exact HL.out hc
        clear HL HG HJ hc HH hu
        generalize slid P y L S L.length = Dl at *
        go_wp2_with fail
        have D0 := B.drew
        have o0 := O.later (below_drew (w := wr))
        obtain ⟨c0, c1⟩ := row_cells o0 m (by omega)
        obtain ⟨d0, d1⟩ := row_cells o0 h (by omega)
        rw [EU.out] at c0 c1
        rw [EV.out] at d0 d1
        have m0 : ∀ W, Below wr.drew.heap.size wr.drew W → W.cell? ⟨g, m * 2, none⟩ = _ := fun W hW => (hW.cell (p := ⟨g, m * 2, none⟩) (World.block_lt_of_cell? _ _ c0)).trans c0
        have m1 : ∀ W, Below wr.drew.heap.size wr.drew W → W.cell? ⟨g, m * 2 + 1, none⟩ = _ := fun W hW => (hW.cell (p := ⟨g, m * 2 + 1, none⟩) (World.block_lt_of_cell? _ _ c1)).trans c1
        have n0 : ∀ W, Below wr.drew.heap.size wr.drew W → W.cell? ⟨g, h * 2, none⟩ = _ := fun W hW => (hW.cell (p := ⟨g, h * 2, none⟩) (World.block_lt_of_cell? _ _ d0)).trans d0
        have n1 : ∀ W, Below wr.drew.heap.size wr.drew W → W.cell? ⟨g, h * 2 + 1, none⟩ = _ := fun W hW => (hW.cell (p := ⟨g, h * 2 + 1, none⟩) (World.block_lt_of_cell? _ _ d1)).trans d1
        clear c0 c1 d0 d1
        have C0 := Below.refl wr.drew.heap.size wr.drew
        refine wp_region_noPanic ?_
        refine wp_region_held_drew (S := fun W => Below wr.drew.heap.size wr.drew W) (by kernel_rfl) ?_ (fun _ => ?_)
        · exact C0
        generalize wr.drew = wd at *
        refine take_at 0 (some 92) (.func (.func 28) #[] #[]) rfl rfl (by kernel_rfl) (by kernel_rfl) (by kernel_rfl) (fun _ _ _ h => h) (by rfl) (fun W hSw => by go_simp) C0 ?_
        simp only [Act.put, List.setIfInBounds_toArray, List.set_cons_zero, List.set_cons_succ]
        refine take_at 1 (some 93) (.slice (some ⟨g, 0, none⟩) N cap) rfl rfl (by kernel_rfl) (by kernel_rfl) (by kernel_rfl) (fun _ _ _ h => h) (by rfl) (fun W hSw => by go_simp) C0 ?_
        simp only [Act.put, List.setIfInBounds_toArray, List.set_cons_zero, List.set_cons_succ]
        refine take_at 2 (some 94) (.int .i64 m) rfl rfl (by kernel_rfl) (by kernel_rfl) (by kernel_rfl) (fun _ _ _ h => h) (by rfl) (fun W hSw => by go_simp) C0 ?_
        simp only [Act.put, List.setIfInBounds_toArray, List.set_cons_zero, List.set_cons_succ]
        refine take_at 3 (some 95) (.pointer (some ⟨g, m * 2, none⟩)) rfl rfl (by kernel_rfl) (by kernel_rfl) (by kernel_rfl) (fun _ _ _ h => h) (by rfl) (fun W hSw => by go_simp) C0 ?_
        simp only [Act.put, List.setIfInBounds_toArray, List.set_cons_zero, List.set_cons_succ]
        refine take_at 4 (some 96) (.agg #[tx u.1, tx u.2]) rfl rfl (by kernel_rfl) (by kernel_rfl) (by kernel_rfl) (fun _ _ _ h => h) (by rfl) (fun W hSw => by have e0 := m0 W hSw; have e1 := m1 W hSw; go_simp) C0 ?_
        simp only [Act.put, List.setIfInBounds_toArray, List.set_cons_zero, List.set_cons_succ]
        refine take_at 5 (some 97) (.slice (some ⟨g, 0, none⟩) N cap) rfl rfl (by kernel_rfl) (by kernel_rfl) (by kernel_rfl) (fun _ _ _ h => h) (by rfl) (fun W hSw => by go_simp) C0 ?_
        simp only [Act.put, List.setIfInBounds_toArray, List.set_cons_zero, List.set_cons_succ]
        refine take_at 6 (some 98) (.int .i64 h) rfl rfl (by kernel_rfl) (by kernel_rfl) (by kernel_rfl) (fun _ _ _ h => h) (by rfl) (fun W hSw => by go_simp) C0 ?_
        simp only [Act.put, List.setIfInBounds_toArray, List.set_cons_zero, List.set_cons_succ]
        refine take_at 7 (some 99) (.pointer (some ⟨g, h * 2, none⟩)) rfl rfl (by kernel_rfl) (by kernel_rfl) (by kernel_rfl) (fun _ _ _ h => h) (by rfl) (fun W hSw => by go_simp) C0 ?_
        simp only [Act.put, List.setIfInBounds_toArray, List.set_cons_zero, List.set_cons_succ]
        refine take_at 8 (some 100) (.agg #[tx v.1, tx v.2]) rfl rfl (by kernel_rfl) (by kernel_rfl) (by kernel_rfl) (fun _ _ _ h => h) (by rfl) (fun W hSw => by have e0 := n0 W hSw; have e1 := n1 W hSw; go_simp) C0 ?_
        simp only [Act.put, List.setIfInBounds_toArray, List.set_cons_zero, List.set_cons_succ]
        refine wpAnyH_ready (rs := [9]) (by kernel_rfl) (by simp) ?_
        refine AllReadyH.cons rfl (fun K hK => ?_) AllReadyH.nil
        go_simp
        refine (byName_any _ _ _).mono ?_
        rintro e y1 ⟨rfl, hy1⟩
        have C1 := Below.chain C0 hy1
        refine hK.out _ _ ?_ (fun _ => ?_)
        · exact C1
        clear hK K
        refine take_at 10 (some 102) (.bool true) rfl rfl (by kernel_rfl) (by kernel_rfl) (by kernel_rfl) (fun _ _ _ h => h) (by rfl) (fun W hSw => by go_simp) C1 ?_
        simp only [Act.put, List.setIfInBounds_toArray, List.set_cons_zero, List.set_cons_succ]
        refine take_at 11 (some 103) (.bool false) rfl rfl (by kernel_rfl) (by kernel_rfl) (by kernel_rfl) (fun _ _ _ h => h) (by rfl) (fun W hSw => by go_simp) C1 ?_
        simp only [Act.put, List.setIfInBounds_toArray, List.set_cons_zero, List.set_cons_succ]
        refine wpAnyH_done (by kernel_rfl) ?_ _
        refine NoPanic.normal ?_
        have o1 := o0.later C1
        have D1 := D0.trans (C1.mono (Nat.le_trans hB0 D0.size))
        clear o0 D0 C0 C1 hy1 m0 m1 n0 n1
        go_wp2_with fail
        go_roundw
        case rel => exact ⟨i, h, rfl, rfl, hai, hih, by omega, HI, HR, o1, D1⟩
        case measure => simp [intOf]; omega
      · have hc' : ¬ Lib.compareBytes u.1 v.1 < 0 := by have := cmpB_lt u.1 v.1; rw [decide_eq_false hc, decide_eq_false_iff_not] at this; exact this
        have HR : Hid (∀ e ∈ L.take (h + 1 - a), ¬ y.1 < e.1) := by rw [← hu]; exact HG.out hc
        clear HL HG HI hc HH hu
        generalize slid P y L S L.length = Dl at *
        go_wp2_with fail
        have D0 := B.drew
        have o0 := O.later (below_drew (w := wr))
        obtain ⟨c0, c1⟩ := row_cells o0 m (by omega)
        obtain ⟨d0, d1⟩ := row_cells o0 h (by omega)
        rw [EU.out] at c0 c1
        rw [EV.out] at d0 d1
        have m0 : ∀ W, Below wr.drew.heap.size wr.drew W → W.cell? ⟨g, m * 2, none⟩ = _ := fun W hW => (hW.cell (p := ⟨g, m * 2, none⟩) (World.block_lt_of_cell? _ _ c0)).trans c0
        have m1 : ∀ W, Below wr.drew.heap.size wr.drew W → W.cell? ⟨g, m * 2 + 1, none⟩ = _ := fun W hW => (hW.cell (p := ⟨g, m * 2 + 1, none⟩) (World.block_lt_of_cell? _ _ c1)).trans c1
        have n0 : ∀ W, Below wr.drew.heap.size wr.drew W → W.cell? ⟨g, h * 2, none⟩ = _ := fun W hW => (hW.cell (p := ⟨g, h * 2, none⟩) (World.block_lt_of_cell? _ _ d0)).trans d0
        have n1 : ∀ W, Below wr.drew.heap.size wr.drew W → W.cell? ⟨g, h * 2 + 1, none⟩ = _ := fun W hW => (hW.cell (p := ⟨g, h * 2 + 1, none⟩) (World.block_lt_of_cell? _ _ d1)).trans d1
        clear c0 c1 d0 d1
        have C0 := Below.refl wr.drew.heap.size wr.drew
        refine wp_region_noPanic ?_
        refine wp_region_held_drew (S := fun W => Below wr.drew.heap.size wr.drew W) (by kernel_rfl) ?_ (fun _ => ?_)
        · exact C0
        generalize wr.drew = wd at *
        refine take_at 0 (some 92) (.func (.func 28) #[] #[]) rfl rfl (by kernel_rfl) (by kernel_rfl) (by kernel_rfl) (fun _ _ _ h => h) (by rfl) (fun W hSw => by go_simp) C0 ?_
        simp only [Act.put, List.setIfInBounds_toArray, List.set_cons_zero, List.set_cons_succ]
        refine take_at 1 (some 93) (.slice (some ⟨g, 0, none⟩) N cap) rfl rfl (by kernel_rfl) (by kernel_rfl) (by kernel_rfl) (fun _ _ _ h => h) (by rfl) (fun W hSw => by go_simp) C0 ?_
        simp only [Act.put, List.setIfInBounds_toArray, List.set_cons_zero, List.set_cons_succ]
        refine take_at 2 (some 94) (.int .i64 m) rfl rfl (by kernel_rfl) (by kernel_rfl) (by kernel_rfl) (fun _ _ _ h => h) (by rfl) (fun W hSw => by go_simp) C0 ?_
        simp only [Act.put, List.setIfInBounds_toArray, List.set_cons_zero, List.set_cons_succ]
        refine take_at 3 (some 95) (.pointer (some ⟨g, m * 2, none⟩)) rfl rfl (by kernel_rfl) (by kernel_rfl) (by kernel_rfl) (fun _ _ _ h => h) (by rfl) (fun W hSw => by go_simp) C0 ?_
        simp only [Act.put, List.setIfInBounds_toArray, List.set_cons_zero, List.set_cons_succ]
        refine take_at 4 (some 96) (.agg #[tx u.1, tx u.2]) rfl rfl (by kernel_rfl) (by kernel_rfl) (by kernel_rfl) (fun _ _ _ h => h) (by rfl) (fun W hSw => by have e0 := m0 W hSw; have e1 := m1 W hSw; go_simp) C0 ?_
        simp only [Act.put, List.setIfInBounds_toArray, List.set_cons_zero, List.set_cons_succ]
        refine take_at 5 (some 97) (.slice (some ⟨g, 0, none⟩) N cap) rfl rfl (by kernel_rfl) (by kernel_rfl) (by kernel_rfl) (fun _ _ _ h => h) (by rfl) (fun W hSw => by go_simp) C0 ?_
        simp only [Act.put, List.setIfInBounds_toArray, List.set_cons_zero, List.set_cons_succ]
        refine take_at 6 (some 98) (.int .i64 h) rfl rfl (by kernel_rfl) (by kernel_rfl) (by kernel_rfl) (fun _ _ _ h => h) (by rfl) (fun W hSw => by go_simp) C0 ?_
        simp only [Act.put, List.setIfInBounds_toArray, List.set_cons_zero, List.set_cons_succ]
        refine take_at 7 (some 99) (.pointer (some ⟨g, h * 2, none⟩)) rfl rfl (by kernel_rfl) (by kernel_rfl) (by kernel_rfl) (fun _ _ _ h => h) (by rfl) (fun W hSw => by go_simp) C0 ?_
        simp only [Act.put, List.setIfInBounds_toArray, List.set_cons_zero, List.set_cons_succ]
        refine take_at 8 (some 100) (.agg #[tx v.1, tx v.2]) rfl rfl (by kernel_rfl) (by kernel_rfl) (by kernel_rfl) (fun _ _ _ h => h) (by rfl) (fun W hSw => by have e0 := n0 W hSw; have e1 := n1 W hSw; go_simp) C0 ?_
        simp only [Act.put, List.setIfInBounds_toArray, List.set_cons_zero, List.set_cons_succ]
        refine wpAnyH_ready (rs := [9]) (by kernel_rfl) (by simp) ?_
        refine AllReadyH.cons rfl (fun K hK => ?_) AllReadyH.nil
        go_simp
        refine (byName_any _ _ _).mono ?_
        rintro e y1 ⟨rfl, hy1⟩
        have C1 := Below.chain C0 hy1
        refine hK.out _ _ ?_ (fun _ => ?_)
        · exact C1
        clear hK K
        refine take_at 10 (some 102) (.bool false) rfl rfl (by kernel_rfl) (by kernel_rfl) (by kernel_rfl) (fun _ _ _ h => h) (by rfl) (fun W hSw => by go_simp) C1 ?_
        simp only [Act.put, List.setIfInBounds_toArray, List.set_cons_zero, List.set_cons_succ]
        refine take_at 11 (some 103) (.bool true) rfl rfl (by kernel_rfl) (by kernel_rfl) (by kernel_rfl) (fun _ _ _ h => h) (by rfl) (fun W hSw => by go_simp) C1 ?_
        simp only [Act.put, List.setIfInBounds_toArray, List.set_cons_zero, List.set_cons_succ]
        refine wpAnyH_done (by kernel_rfl) ?_ _
        refine NoPanic.normal ?_
        have o1 := o0.later C1
        have D1 := D0.trans (C1.mono (Nat.le_trans hB0 D0.size))
        clear o0 D0 C0 C1 hy1 m0 m1 n0 n1
        go_wp2_with fail
        go_roundw
        case rel => exact ⟨h + 1, j, by go_num, rfl, by omega, by omega, hjm, HR, HJ, o1, D1⟩
        case measure => simp [intOf]; omega
    · obtain rfl : i = j := by omega
      obtain ⟨t, HT⟩ : ∃ t, Hid (i = a + t) := ⟨i - a, by show _ = _; omega⟩
      have htL : t ≤ L.length := by have := HT.out; have := HM.out; omega
      have HMg : Hid (Merged L [y] (L.take t ++ y :: L.drop t)) := by
        have h1 := HI.out
        have h2 := HJ.out
        rw [HT.out, Nat.add_sub_cancel_left] at h1 h2
        have := merged_last (y := y) (L1 := L.take t) (L2 := L.drop t) (by rw [List.take_append_drop]; exact hs) h1 h2
        rw [List.take_append_drop] at this
        exact this
      clear HI HJ
      go_wp2_with fail
      go_loopw [17] (fun u wr => ∃ k p : Nat, t ≤ k ∧ k ≤ L.length ∧ Hid (p = a + k) ∧ u = .int .i64 p ∧ i ≤ p ∧ p ≤ m ∧ Own wr base (.slice (some ⟨g, 0, none⟩) N cap) (slid P y L S k) ∧ Below base w0 wr) (fun u _ => (intOf u).toNat)
      case atStart => exact ⟨L.length, m, htL, Nat.le_refl _, HM.out.symm, rfl, hjm, Nat.le_refl _, O, B⟩
      case round =>
        clear O B
        obtain ⟨k, p, htk, hkL, HP, rfl, hip, hpm, O, B⟩ := hrel
        by_cases hkt : t < k
        · have hkt' : i < p := by rw [HP.out, HT.out]; omega
          obtain ⟨q, HQ0⟩ : ∃ q, Hid (p = q + 1) := ⟨p - 1, by show _ = _; omega⟩
          obtain ⟨k2, HK⟩ : ∃ k2, Hid (k = k2 + 1) := ⟨k - 1, by show _ = _; omega⟩
          have HQ : Hid (q = a + k2) := by show _ = _; have := HQ0.out; have := HP.out; have := HK.out; omega
          have HS : Hid (sw (slid P y L S k) p q = slid P y L S k2) := by
            have := slid_back (P := P) (x := y) (S := S) (t := k2) (R := L) (by have := HK.out; omega)
            rw [HA.out] at this
            rw [HQ0.out, HQ.out, HK.out]
            exact this
          have hp : IntKind.i64.wrap ((p : Int) - 1) = (q : Int) := by rw [IntKind.wrap_i64]; have := HQ0.out; omega
          have hp1 : p < N := by omega
          have hqp : q < p := by rw [HQ0.out]; omega
          have hq1 : q < N := by omega
          have hq2 : i ≤ q := by have := HQ0.out; omega
          have hk3 : t ≤ k2 := by have := HK.out; omega
          have hk4 : k2 ≤ L.length := by have := HK.out; omega
          clear HP HQ0 HK
          generalize slid P y L S k = R1 at *
          go_wp2_with fail
          have o0 := O.later (below_drew (w := wr))
          have D0 := B.drew
          obtain ⟨c0, c1⟩ := row_cells o0 p (by omega)
          obtain ⟨d0, d1⟩ := row_cells o0 q (by omega)
          have z0 := row_frozen o0 (p * 2)
          have z1 := row_frozen o0 (p * 2 + 1)
          have hgb := (World.ownsRow.lt o0 g rfl).1
          have HSW : Hid (sw R1 p q = (R1.set p (R1.getD q ([], []))).set q (R1.getD p ([], []))) := rfl
          generalize R1.getD p ([], []) = x' at *
          generalize R1.getD q ([], []) = y' at *
          clear O B
          refine wp_region_noPanic ?_
          refine wp_region_held_drew (S := fun _ => True) (by kernel_rfl) ?_ (fun _ => ?_)
          · exact trivial
          generalize wr.drew = wd at *
          refine take_at 0 (some 113) (.slice (some ⟨g, 0, none⟩) N cap) rfl rfl (by kernel_rfl) (by kernel_rfl) (by kernel_rfl) (fun _ _ _ h => h) (by rfl) (fun W hSw => by go_simp) trivial ?_
          simp only [Act.put, List.setIfInBounds_toArray, List.set_cons_zero, List.set_cons_succ]
          refine take_at 1 (some 114) (.int .i64 p) rfl rfl (by kernel_rfl) (by kernel_rfl) (by kernel_rfl) (fun _ _ _ h => h) (by rfl) (fun W hSw => by go_simp) trivial ?_
          simp only [Act.put, List.setIfInBounds_toArray, List.set_cons_zero, List.set_cons_succ]
          refine take_at 2 (some 115) (.slice (some ⟨g, 0, none⟩) N cap) rfl rfl (by kernel_rfl) (by kernel_rfl) (by kernel_rfl) (fun _ _ _ h => h) (by rfl) (fun W hSw => by go_simp) trivial ?_
          simp only [Act.put, List.setIfInBounds_toArray, List.set_cons_zero, List.set_cons_succ]
          refine take_at 3 (some 116) (.int .i64 p) rfl rfl (by kernel_rfl) (by kernel_rfl) (by kernel_rfl) (fun _ _ _ h => h) (by rfl) (fun W hSw => by go_simp) trivial ?_
          simp only [Act.put, List.setIfInBounds_toArray, List.set_cons_zero, List.set_cons_succ]
          refine take_at 4 (some 117) (.int .i64 q) rfl rfl (by kernel_rfl) (by kernel_rfl) (by kernel_rfl) (fun _ _ _ h => h) (by rfl) (fun W hSw => by go_simp) trivial ?_
          simp only [Act.put, List.setIfInBounds_toArray, List.set_cons_zero, List.set_cons_succ]
          refine take_at 5 (some 118) (.slice (some ⟨g, 0, none⟩) N cap) rfl rfl (by kernel_rfl) (by kernel_rfl) (by kernel_rfl) (fun _ _ _ h => h) (by rfl) (fun W hSw => by go_simp) trivial ?_
          simp only [Act.put, List.setIfInBounds_toArray, List.set_cons_zero, List.set_cons_succ]
          refine take_at 6 (some 119) (.int .i64 p) rfl rfl (by kernel_rfl) (by kernel_rfl) (by kernel_rfl) (fun _ _ _ h => h) (by rfl) (fun W hSw => by go_simp) trivial ?_
          simp only [Act.put, List.setIfInBounds_toArray, List.set_cons_zero, List.set_cons_succ]
          refine take_at 7 (some 120) (.int .i64 q) rfl rfl (by kernel_rfl) (by kernel_rfl) (by kernel_rfl) (fun _ _ _ h => h) (by rfl) (fun W hSw => by go_simp) trivial ?_
          simp only [Act.put, List.setIfInBounds_toArray, List.set_cons_zero, List.set_cons_succ]
          refine take_at 8 (some 121) (.pointer (some ⟨g, q * 2, none⟩)) rfl rfl (by kernel_rfl) (by kernel_rfl) (by kernel_rfl) (fun _ _ _ h => h) (by rfl) (fun W hSw => by go_simp) trivial ?_
          simp only [Act.put, List.setIfInBounds_toArray, List.set_cons_zero, List.set_cons_succ]
          refine take_at 10 (some 123) (.slice (some ⟨g, 0, none⟩) N cap) rfl rfl (by kernel_rfl) (by kernel_rfl) (by kernel_rfl) (fun _ _ _ h => h) (by rfl) (fun W hSw => by go_simp) trivial ?_
          simp only [Act.put, List.setIfInBounds_toArray, List.set_cons_zero, List.set_cons_succ]
          refine take_at 11 (some 124) (.int .i64 p) rfl rfl (by kernel_rfl) (by kernel_rfl) (by kernel_rfl) (fun _ _ _ h => h) (by rfl) (fun W hSw => by go_simp) trivial ?_
          simp only [Act.put, List.setIfInBounds_toArray, List.set_cons_zero, List.set_cons_succ]
          refine take_at 12 (some 125) (.pointer (some ⟨g, p * 2, none⟩)) rfl rfl (by kernel_rfl) (by kernel_rfl) (by kernel_rfl) (fun _ _ _ h => h) (by rfl) (fun W hSw => by go_simp) trivial ?_
          simp only [Act.put, List.setIfInBounds_toArray, List.set_cons_zero, List.set_cons_succ]
          refine wpAnyH_ready (rs := [9, 13]) (by kernel_rfl) (by simp) ?_
          refine AllReadyH.cons rfl (fun K hK => ?_) (AllReadyH.cons rfl (fun K hK => ?_) AllReadyH.nil)
          · go_simp
            refine hK.out _ _ ?_ (fun _ => ?_)
            · exact trivial
            clear hK K
            refine wpAnyH_ready (rs := [13]) (by kernel_rfl) (by simp) ?_
            refine AllReadyH.cons rfl (fun K hK => ?_) AllReadyH.nil
            go_simp
            refine hK.out _ _ ?_ (fun _ => ?_)
            · exact trivial
            clear hK K
            refine take_at 14 (some 127) (.pointer (some ⟨g, p * 2, none⟩)) rfl rfl (by kernel_rfl) (by kernel_rfl) (by kernel_rfl) (fun _ _ _ h => h) (by rfl) (fun W hSw => by go_simp) trivial ?_
            simp only [Act.put, List.setIfInBounds_toArray, List.set_cons_zero, List.set_cons_succ]
            refine wpAnyH_ready (rs := [15]) (by kernel_rfl) (by simp) ?_
            refine AllReadyH.cons rfl (fun K hK => ?_) AllReadyH.nil
            go_simp
            have o1 := own_put o0 p y' (by omega)
            have D1 := (D0.setCell (p := ⟨g, p * 2, none⟩) hgb (tx y'.1)).setCell (p := ⟨g, p * 2 + 1, none⟩) hgb (tx y'.2)
            generalize (wd.setCell ⟨g, p * 2, none⟩ (.string ⟨y'.1.toArray⟩)).setCell ⟨g, p * 2 + 1, none⟩ (.string ⟨y'.2.toArray⟩) = y1 at *
            refine hK.out _ _ ?_ (fun _ => ?_)
            · exact trivial
            clear hK K
            obtain ⟨t0, t1⟩ := row_cells o1 q (by omega)
            have z2 := row_frozen o1 (q * 2)
            have z3 := row_frozen o1 (q * 2 + 1)
            refine take_at 16 (some 128) (.pointer (some ⟨g, q * 2, none⟩)) rfl rfl (by kernel_rfl) (by kernel_rfl) (by kernel_rfl) (fun _ _ _ h => h) (by rfl) (fun W hSw => by go_simp) trivial ?_
            simp only [Act.put, List.setIfInBounds_toArray, List.set_cons_zero, List.set_cons_succ]
            refine wpAnyH_ready (rs := [17]) (by kernel_rfl) (by simp) ?_
            refine AllReadyH.cons rfl (fun K hK => ?_) AllReadyH.nil
            go_simp
            have o2 := own_put o1 q x' (by omega)
            have D2 := (D1.setCell (p := ⟨g, q * 2, none⟩) hgb (tx x'.1)).setCell (p := ⟨g, q * 2 + 1, none⟩) hgb (tx x'.2)
            clear t0 t1 z2 z3
            generalize (y1.setCell ⟨g, q * 2, none⟩ (.string ⟨x'.1.toArray⟩)).setCell ⟨g, q * 2 + 1, none⟩ (.string ⟨x'.2.toArray⟩) = y2 at *
            refine hK.out _ _ ?_ (fun _ => ?_)
            · exact trivial
            clear hK K
            refine wpAnyH_done (by kernel_rfl) ?_ _
            refine NoPanic.normal ?_
            rw [← HSW.out] at o2
            rw [HS.out] at o2
            go_wp2_with fail
            go_roundw
            case rel => exact ⟨k2, q, hk3, hk4, HQ, rfl, hq2, by omega, o2, D2⟩
            case measure => simp only [intOf, Int.toNat_natCast]; omega
          · go_simp
            refine hK.out _ _ ?_ (fun _ => ?_)
            · exact trivial
            clear hK K
            refine wpAnyH_ready (rs := [9]) (by kernel_rfl) (by simp) ?_
            refine AllReadyH.cons rfl (fun K hK => ?_) AllReadyH.nil
            go_simp
            refine hK.out _ _ ?_ (fun _ => ?_)
            · exact trivial
            clear hK K
            refine take_at 14 (some 127) (.pointer (some ⟨g, p * 2, none⟩)) rfl rfl (by kernel_rfl) (by kernel_rfl) (by kernel_rfl) (fun _ _ _ h => h) (by rfl) (fun W hSw => by go_simp) trivial ?_
            simp only [Act.put, List.setIfInBounds_toArray, List.set_cons_zero, List.set_cons_succ]
            refine wpAnyH_ready (rs := [15]) (by kernel_rfl) (by simp) ?_
            refine AllReadyH.cons rfl (fun K hK => ?_) AllReadyH.nil
            go_simp
            have o1 := own_put o0 p y' (by omega)
            have D1 := (D0.setCell (p := ⟨g, p * 2, none⟩) hgb (tx y'.1)).setCell (p := ⟨g, p * 2 + 1, none⟩) hgb (tx y'.2)
            generalize (wd.setCell ⟨g, p * 2, none⟩ (.string ⟨y'.1.toArray⟩)).setCell ⟨g, p * 2 + 1, none⟩ (.string ⟨y'.2.toArray⟩) = y1 at *
            refine hK.out _ _ ?_ (fun _ => ?_)
            · exact trivial
            clear hK K
            obtain ⟨t0, t1⟩ := row_cells o1 q (by omega)
            have z2 := row_frozen o1 (q * 2)
            have z3 := row_frozen o1 (q * 2 + 1)
            refine take_at 16 (some 128) (.pointer (some ⟨g, q * 2, none⟩)) rfl rfl (by kernel_rfl) (by kernel_rfl) (by kernel_rfl) (fun _ _ _ h => h) (by rfl) (fun W hSw => by go_simp) trivial ?_
            simp only [Act.put, List.setIfInBounds_toArray, List.set_cons_zero, List.set_cons_succ]
            refine wpAnyH_ready (rs := [17]) (by kernel_rfl) (by simp) ?_
            refine AllReadyH.cons rfl (fun K hK => ?_) AllReadyH.nil
            go_simp
            have o2 := own_put o1 q x' (by omega)
            have D2 := (D1.setCell (p := ⟨g, q * 2, none⟩) hgb (tx x'.1)).setCell (p := ⟨g, q * 2 + 1, none⟩) hgb (tx x'.2)
            clear t0 t1 z2 z3
            generalize (y1.setCell ⟨g, q * 2, none⟩ (.string ⟨x'.1.toArray⟩)).setCell ⟨g, q * 2 + 1, none⟩ (.string ⟨x'.2.toArray⟩) = y2 at *
            refine hK.out _ _ ?_ (fun _ => ?_)
            · exact trivial
            clear hK K
            refine wpAnyH_done (by kernel_rfl) ?_ _
            refine NoPanic.normal ?_
            rw [← HSW.out] at o2
            rw [HS.out] at o2
            go_wp2_with fail
            go_roundw
            case rel => exact ⟨k2, q, hk3, hk4, HQ, rfl, hq2, by omega, o2, D2⟩
            case measure => simp only [intOf, Int.toNat_natCast]; omega
        · obtain rfl : k = t := by omega
          have hkt' : ¬ i < p := by rw [HP.out, HT.out]; omega
          have HD : Hid (slid P y L S k = P ++ ((L.take k ++ y :: L.drop k) ++ S)) := by show _ = _; simp [slid]
          rw [HD.out] at O
          clear HP HD HT
          go_wp2_with fail
          refine bodyPost_ret (results_none rfl _ _ _) rfl ?_
          exact ⟨rfl, _, HMg.out, O, B⟩
end Go.Proofs.YtldlhpokkidmlaaGreatDoor
