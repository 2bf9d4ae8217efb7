/- slices' symMerge where both pieces are longer. -/
import Derived.Test.YtldlhpokkidmlaaGreatDoorRotate
import Derived.Test.YtldlhpokkidmlaaGreatDoorSymParts
namespace Go.Proofs.YtldlhpokkidmlaaGreatDoor
open Go.RowKit

/-- What merging in place does with rows shorter than K. -/
def SymOK (g cap base N : Nat) (w0 : World) (K : Nat) : Prop := ∀ (P L R S : List Pr) (a m b : Nat) (w : World), b - a < K → 0 < L.length → 0 < R.length → P.length = a → a + L.length = m → m + R.length = b → sortedN L → sortedN R →
  Own w base (.slice (some ⟨g, 0, none⟩) N cap) (P ++ (L ++ (R ++ S))) → Below base w0 w →
  Calls Tryz.prog 88 #[.slice (some ⟨g, 0, none⟩) N cap, .int .i64 a, .int .i64 m, .int .i64 b, .func (.func 28) #[] #[]] w fun e w' => e = .returned (.tuple #[]) ∧ ∃ M, Merged L R M ∧ Own w' base (.slice (some ⟨g, 0, none⟩) N cap) (P ++ (M ++ S)) ∧ Below base w0 w'

set_option maxRecDepth 200000 in
set_option maxHeartbeats 8000000 in
theorem symGen_any (g cap base N : Nat) (w0 : World) (P L R S : List Pr) (a m b : Nat) (w : World) (IH : SymOK g cap base N w0 (b - a)) (hL2 : 2 ≤ L.length) (hR2 : 2 ≤ R.length) (ha : P.length = a) (hm : a + L.length = m) (hb : m + R.length = b) (hsL : sortedN L) (hsR : sortedN R) (hN : N ≤ 1000000)
    (ho : Own w base (.slice (some ⟨g, 0, none⟩) N cap) (P ++ (L ++ (R ++ S)))) (hbw : Below base w0 w) (hB0 : base ≤ w0.heap.size) :
    Calls Tryz.prog 88 #[.slice (some ⟨g, 0, none⟩) N cap, .int .i64 a, .int .i64 m, .int .i64 b, .func (.func 28) #[] #[]] w fun e w' => e = .returned (.tuple #[]) ∧ ∃ M, Merged L R M ∧ Own w' base (.slice (some ⟨g, 0, none⟩) N cap) (P ++ (M ++ S)) ∧ Below base w0 w' := by
  have hlen : b + S.length = N := by
    obtain ⟨_, _, e, _, _⟩ := ho.slice
    have := (Value.slice.inj e).2.1
    simp only [List.length_append] at this
    omega
  have hbN : b ≤ N := by omega
  obtain ⟨n1, hn1⟩ : ∃ n, Hid (n = L.length) := ⟨_, rfl⟩
  obtain ⟨n2, hn2⟩ : ∃ n, Hid (n = R.length) := ⟨_, rfl⟩
  obtain ⟨mid, HMid⟩ : ∃ n, Hid (n = (a + b) / 2) := ⟨_, rfl⟩
  obtain ⟨nn, HNN⟩ : ∃ n, Hid (n = mid + m) := ⟨_, rfl⟩
  obtain ⟨pp, HPP⟩ : ∃ n, Hid (nn = n + 1) := ⟨nn - 1, by show _ = _; rw [HNN.out]; omega⟩
  have hw0 : IntKind.i64.wrap ((m : Int) - (a : Int)) = (n1 : Int) := by rw [IntKind.wrap_i64, hn1.out]; omega
  have hx0 : ((n1 : Int) == 1) = false := by rw [beq_eq_false_iff_ne, hn1.out]; omega
  have hw9 : IntKind.i64.wrap ((b : Int) - (m : Int)) = (n2 : Int) := by rw [IntKind.wrap_i64, hn2.out]; omega
  have hx9 : ((n2 : Int) == 1) = false := by rw [beq_eq_false_iff_ne, hn2.out]; omega
  have hMd : ((a : Int) + (b : Int)) / 2 = (mid : Int) := by rw [HMid.out]; omega
  have hNa : IntKind.i64.wrap ((mid : Int) + (m : Int)) = (nn : Int) := by rw [IntKind.wrap_i64, HNN.out]; have := HMid.out; omega
  have hPa : IntKind.i64.wrap ((nn : Int) - 1) = (pp : Int) := by rw [IntKind.wrap_i64]; have := HPP.out; have := HNN.out; have := HMid.out; omega
  have HA : Hid (P.length = a) := ha
  have HM : Hid (a + L.length = m) := hm
  have HB : Hid (m + R.length = b) := hb
  have ham : a + 2 ≤ m := by omega
  have hmb : m + 2 ≤ b := by omega
  have hmd1 : a + 2 ≤ mid := by rw [HMid.out]; omega
  have hmd2 : mid + 2 ≤ b := by rw [HMid.out]; omega
  have hnb : nn ≤ 2 * N := by rw [HNN.out]; omega
  have HMM : Hid (2 * mid ≤ a + b ∧ a + b ≤ 2 * mid + 1) := by show _ ∧ _; have := HMid.out; omega
  clear hlen ha hm hb hn1 hn2 HMid hL2 hR2
  obtain ⟨Dl, HD⟩ : ∃ d, Hid (d = P ++ (L ++ (R ++ S))) := ⟨_, rfl⟩
  rw [← HD.out] at ho
  by_cases hmm : mid < m
  · obtain ⟨s0, HS⟩ : ∃ n, Hid (nn = n + b) := ⟨nn - b, by show _ = _; have := HNN.out; have := HMM.out; omega⟩
    obtain ⟨r0, HR⟩ : ∃ n, Hid (n = mid) := ⟨_, rfl⟩
    have hS : IntKind.i64.wrap ((nn : Int) - (b : Int)) = (s0 : Int) := by rw [IntKind.wrap_i64]; have := HS.out; omega
    have f1 : a ≤ s0 := by have := HS.out; have := HNN.out; have := HMM.out; omega
    have f2 : s0 ≤ r0 := by have := HS.out; have := HNN.out; have := HR.out; omega
    have f3 : r0 ≤ m := by have := HR.out; omega
    have f4 : r0 ≤ mid := by have := HR.out; omega
    have f5 : Hid (nn ≤ b + s0) := by show _ ≤ _; have := HS.out; omega
    have g1 : Hid (s0 = a ∨ nn = b + s0) := Or.inr (by have := HS.out; omega)
    have g2 : Hid (r0 = m ∨ nn = m + r0) := Or.inr (by have := HR.out; have := HNN.out; omega)
    have hq0 : (mid : Int) = (r0 : Int) := by rw [HR.out]
    clear HS
    clear hq0
    go_enter Tryz.func88, Tryz.ntmps88
    go_wp2_with fail
    go_loopw [20, 21] (fun u v wr => ∃ st r : Nat, u = .int .i64 st ∧ v = .int .i64 r ∧ s0 ≤ st ∧ st ≤ r ∧ r ≤ r0 ∧ Hid (st = s0 ∨ ¬ (R.getD (nn - st - m) zz).1 < (L.getD (st - 1 - a) zz).1) ∧ Hid (r = r0 ∨ (R.getD (nn - 1 - r - m) zz).1 < (L.getD (r - a) zz).1) ∧ Own wr base (.slice (some ⟨g, 0, none⟩) N cap) Dl ∧ Below base w0 wr) (fun u v _ => (intOf v).toNat - (intOf u).toNat)
    case atStart => exact ⟨s0, mid, rfl, rfl, Nat.le_refl _, by have := HR.out; omega, by have := HR.out; omega, Or.inl rfl, Or.inl HR.out.symm, ho, hbw⟩
    case round =>
      clear ho hbw
      obtain ⟨st, r, rfl, rfl, hst, hsr, hrr, HI, HJ, O, B⟩ := hrel
      by_cases hlt : st < r
      · obtain ⟨c, HC⟩ : ∃ c, Hid (c = (st + r) / 2) := ⟨_, rfl⟩
        have hC : ((st : Int) + (r : Int)) / 2 = (c : Int) := by rw [HC.out]; omega
        have hsc : st ≤ c := by rw [HC.out]; omega
        have hcr : c < r := by rw [HC.out]; omega
        obtain ⟨q, HQ⟩ : ∃ q, Hid (pp = q + c) := ⟨pp - c, by show _ = _; have := HPP.out; have := HNN.out; omega⟩
        have hQ : IntKind.i64.wrap ((pp : Int) - (c : Int)) = (q : Int) := by rw [IntKind.wrap_i64]; have := HQ.out; have := HPP.out; omega
        have hq1 : m ≤ q := by have := HQ.out; have := HPP.out; have := HNN.out; omega
        have hq2 : q < b := by have := HQ.out; have := HPP.out; have := f5.out; omega
        have hqN : q < N := by omega
        have hcN : c < N := by omega
        have EU : Hid (Dl.getD q ([], []) = R.getD (q - m) zz) := by show _ = _; rw [HD.out]; exact row_right HA.out HM.out hq1 (by have := HB.out; omega)
        have EV : Hid (Dl.getD c ([], []) = L.getD (c - a) zz) := by show _ = _; rw [HD.out]; exact row_left HA.out (by omega) (by have := HM.out; omega)
        have e1 : nn - (c + 1) - m = q - m := by have := HQ.out; have := HPP.out; omega
        have e2 : nn - 1 - c - m = q - m := by have := HQ.out; have := HPP.out; omega
        have HL : Hid ((R.getD (q - m) zz).1 < (L.getD (c - a) zz).1 → (c = r0 ∨ (R.getD (nn - 1 - c - m) zz).1 < (L.getD (c - a) zz).1)) := fun k => Or.inr (by rw [e2]; exact k)
        have HG : Hid (¬ (R.getD (q - m) zz).1 < (L.getD (c - a) zz).1 → (c + 1 = s0 ∨ ¬ (R.getD (nn - (c + 1) - m) zz).1 < (L.getD (c + 1 - 1 - a) zz).1)) := fun k => Or.inr (by rw [e1]; exact k)
        clear e1 e2
        generalize hu0 : R.getD (q - m) zz = u at EU
        generalize hv0 : L.getD (c - a) zz = v at EV
        have HU0 : Hid _ := hu0
        have HV0 : Hid _ := hv0
        clear hu0 hv0
        by_cases hc : u.1 < v.1
        · have hc' : Lib.compareBytes u.1 v.1 < 0 := by have := cmpB_lt u.1 v.1; rw [decide_eq_true hc, decide_eq_true_eq] at this; exact this
          have HRr : Hid _ := HL.out (by rw [HU0.out, HV0.out]; exact hc)
          clear HL HG HJ hc HC HU0 HV0
          go_wp2_with fail
          have D0 := B.drew
          have o0 := O.later (below_drew (w := wr))
          obtain ⟨c0, c1⟩ := row_cells o0 q (by omega)
          obtain ⟨d0, d1⟩ := row_cells o0 c (by omega)
          rw [EU.out] at c0 c1
          rw [EV.out] at d0 d1
          have m0 : ∀ W, Below wr.drew.heap.size wr.drew W → W.cell? ⟨g, q * 2, none⟩ = _ := fun W hW => (hW.cell (p := ⟨g, q * 2, none⟩) (World.block_lt_of_cell? _ _ c0)).trans c0
          have m1 : ∀ W, Below wr.drew.heap.size wr.drew W → W.cell? ⟨g, q * 2 + 1, none⟩ = _ := fun W hW => (hW.cell (p := ⟨g, q * 2 + 1, none⟩) (World.block_lt_of_cell? _ _ c1)).trans c1
          have n0 : ∀ W, Below wr.drew.heap.size wr.drew W → W.cell? ⟨g, c * 2, none⟩ = _ := fun W hW => (hW.cell (p := ⟨g, c * 2, none⟩) (World.block_lt_of_cell? _ _ d0)).trans d0
          have n1 : ∀ W, Below wr.drew.heap.size wr.drew W → W.cell? ⟨g, c * 2 + 1, none⟩ = _ := fun W hW => (hW.cell (p := ⟨g, c * 2 + 1, none⟩) (World.block_lt_of_cell? _ _ d1)).trans d1
          clear c0 c1 d0 d1
          have C0 := Below.refl wr.drew.heap.size wr.drew
          refine wp_region_noPanic ?_
          refine wp_region_held_drew (S := fun W => Below wr.drew.heap.size wr.drew W) (by kernel_rfl) ?_ (fun _ => ?_)
          · exact C0
          generalize wr.drew = wd at *
          refine take_at 0 (some 158) (.func (.func 28) #[] #[]) rfl rfl (by kernel_rfl) (by kernel_rfl) (by kernel_rfl) (fun _ _ _ h => h) (by rfl) (fun W hSw => by go_simp) C0 ?_
          simp only [Act.put, List.setIfInBounds_toArray, List.set_cons_zero, List.set_cons_succ]
          refine take_at 1 (some 159) (.slice (some ⟨g, 0, none⟩) N cap) rfl rfl (by kernel_rfl) (by kernel_rfl) (by kernel_rfl) (fun _ _ _ h => h) (by rfl) (fun W hSw => by go_simp) C0 ?_
          simp only [Act.put, List.setIfInBounds_toArray, List.set_cons_zero, List.set_cons_succ]
          refine take_at 2 (some 160) (.int .i64 pp) rfl rfl (by kernel_rfl) (by kernel_rfl) (by kernel_rfl) (fun _ _ _ h => h) (by rfl) (fun W hSw => by go_simp) C0 ?_
          simp only [Act.put, List.setIfInBounds_toArray, List.set_cons_zero, List.set_cons_succ]
          refine take_at 3 (some 161) (.int .i64 c) rfl rfl (by kernel_rfl) (by kernel_rfl) (by kernel_rfl) (fun _ _ _ h => h) (by rfl) (fun W hSw => by go_simp) C0 ?_
          simp only [Act.put, List.setIfInBounds_toArray, List.set_cons_zero, List.set_cons_succ]
          refine take_at 4 (some 162) (.int .i64 q) rfl rfl (by kernel_rfl) (by kernel_rfl) (by kernel_rfl) (fun _ _ _ h => h) (by rfl) (fun W hSw => by go_simp) C0 ?_
          simp only [Act.put, List.setIfInBounds_toArray, List.set_cons_zero, List.set_cons_succ]
          refine take_at 5 (some 163) (.pointer (some ⟨g, q * 2, none⟩)) rfl rfl (by kernel_rfl) (by kernel_rfl) (by kernel_rfl) (fun _ _ _ h => h) (by rfl) (fun W hSw => by go_simp) C0 ?_
          simp only [Act.put, List.setIfInBounds_toArray, List.set_cons_zero, List.set_cons_succ]
          refine take_at 6 (some 164) (.agg #[tx u.1, tx u.2]) rfl rfl (by kernel_rfl) (by kernel_rfl) (by kernel_rfl) (fun _ _ _ h => h) (by rfl) (fun W hSw => by have e0 := m0 W hSw; have e1 := m1 W hSw; go_simp) C0 ?_
          simp only [Act.put, List.setIfInBounds_toArray, List.set_cons_zero, List.set_cons_succ]
          refine take_at 7 (some 165) (.slice (some ⟨g, 0, none⟩) N cap) rfl rfl (by kernel_rfl) (by kernel_rfl) (by kernel_rfl) (fun _ _ _ h => h) (by rfl) (fun W hSw => by go_simp) C0 ?_
          simp only [Act.put, List.setIfInBounds_toArray, List.set_cons_zero, List.set_cons_succ]
          refine take_at 8 (some 166) (.int .i64 c) rfl rfl (by kernel_rfl) (by kernel_rfl) (by kernel_rfl) (fun _ _ _ h => h) (by rfl) (fun W hSw => by go_simp) C0 ?_
          simp only [Act.put, List.setIfInBounds_toArray, List.set_cons_zero, List.set_cons_succ]
          refine take_at 9 (some 167) (.pointer (some ⟨g, c * 2, none⟩)) rfl rfl (by kernel_rfl) (by kernel_rfl) (by kernel_rfl) (fun _ _ _ h => h) (by rfl) (fun W hSw => by go_simp) C0 ?_
          simp only [Act.put, List.setIfInBounds_toArray, List.set_cons_zero, List.set_cons_succ]
          refine take_at 10 (some 168) (.agg #[tx v.1, tx v.2]) rfl rfl (by kernel_rfl) (by kernel_rfl) (by kernel_rfl) (fun _ _ _ h => h) (by rfl) (fun W hSw => by have e0 := n0 W hSw; have e1 := n1 W hSw; go_simp) C0 ?_
          simp only [Act.put, List.setIfInBounds_toArray, List.set_cons_zero, List.set_cons_succ]
          refine wpAnyH_ready (rs := [11]) (by kernel_rfl) (by simp) ?_
          refine AllReadyH.cons rfl (fun K hK => ?_) AllReadyH.nil
          go_simp
          refine (byName_any _ _ _).mono ?_
          rintro e y1 ⟨rfl, hy1⟩
          have C1 := Below.chain C0 hy1
          refine hK.out _ _ ?_ (fun _ => ?_)
          · exact C1
          clear hK K
          refine take_at 12 (some 170) (.bool true) rfl rfl (by kernel_rfl) (by kernel_rfl) (by kernel_rfl) (fun _ _ _ h => h) (by rfl) (fun W hSw => by go_simp) C1 ?_
          simp only [Act.put, List.setIfInBounds_toArray, List.set_cons_zero, List.set_cons_succ]
          refine take_at 13 (some 171) (.bool false) rfl rfl (by kernel_rfl) (by kernel_rfl) (by kernel_rfl) (fun _ _ _ h => h) (by rfl) (fun W hSw => by go_simp) C1 ?_
          simp only [Act.put, List.setIfInBounds_toArray, List.set_cons_zero, List.set_cons_succ]
          refine wpAnyH_done (by kernel_rfl) ?_ _
          refine NoPanic.normal ?_
          have o1 := o0.later C1
          have D1 := D0.trans (C1.mono (Nat.le_trans hB0 D0.size))
          clear o0 D0 C0 C1 hy1 m0 m1 n0 n1
          go_wp2_with fail
          go_roundw
          case rel => exact ⟨st, c, rfl, rfl, hst, hsc, by omega, HI, HRr, o1, D1⟩
          case measure => simp [intOf]; omega
        · have hc' : ¬ Lib.compareBytes u.1 v.1 < 0 := by have := cmpB_lt u.1 v.1; rw [decide_eq_false hc, decide_eq_false_iff_not] at this; exact this
          have HRr : Hid _ := HG.out (by rw [HU0.out, HV0.out]; exact hc)
          clear HL HG HI hc HC HU0 HV0
          go_wp2_with fail
          have D0 := B.drew
          have o0 := O.later (below_drew (w := wr))
          obtain ⟨c0, c1⟩ := row_cells o0 q (by omega)
          obtain ⟨d0, d1⟩ := row_cells o0 c (by omega)
          rw [EU.out] at c0 c1
          rw [EV.out] at d0 d1
          have m0 : ∀ W, Below wr.drew.heap.size wr.drew W → W.cell? ⟨g, q * 2, none⟩ = _ := fun W hW => (hW.cell (p := ⟨g, q * 2, none⟩) (World.block_lt_of_cell? _ _ c0)).trans c0
          have m1 : ∀ W, Below wr.drew.heap.size wr.drew W → W.cell? ⟨g, q * 2 + 1, none⟩ = _ := fun W hW => (hW.cell (p := ⟨g, q * 2 + 1, none⟩) (World.block_lt_of_cell? _ _ c1)).trans c1
          have n0 : ∀ W, Below wr.drew.heap.size wr.drew W → W.cell? ⟨g, c * 2, none⟩ = _ := fun W hW => (hW.cell (p := ⟨g, c * 2, none⟩) (World.block_lt_of_cell? _ _ d0)).trans d0
          have n1 : ∀ W, Below wr.drew.heap.size wr.drew W → W.cell? ⟨g, c * 2 + 1, none⟩ = _ := fun W hW => (hW.cell (p := ⟨g, c * 2 + 1, none⟩) (World.block_lt_of_cell? _ _ d1)).trans d1
          clear c0 c1 d0 d1
          have C0 := Below.refl wr.drew.heap.size wr.drew
          refine wp_region_noPanic ?_
          refine wp_region_held_drew (S := fun W => Below wr.drew.heap.size wr.drew W) (by kernel_rfl) ?_ (fun _ => ?_)
          · exact C0
          generalize wr.drew = wd at *
          refine take_at 0 (some 158) (.func (.func 28) #[] #[]) rfl rfl (by kernel_rfl) (by kernel_rfl) (by kernel_rfl) (fun _ _ _ h => h) (by rfl) (fun W hSw => by go_simp) C0 ?_
          simp only [Act.put, List.setIfInBounds_toArray, List.set_cons_zero, List.set_cons_succ]
          refine take_at 1 (some 159) (.slice (some ⟨g, 0, none⟩) N cap) rfl rfl (by kernel_rfl) (by kernel_rfl) (by kernel_rfl) (fun _ _ _ h => h) (by rfl) (fun W hSw => by go_simp) C0 ?_
          simp only [Act.put, List.setIfInBounds_toArray, List.set_cons_zero, List.set_cons_succ]
          refine take_at 2 (some 160) (.int .i64 pp) rfl rfl (by kernel_rfl) (by kernel_rfl) (by kernel_rfl) (fun _ _ _ h => h) (by rfl) (fun W hSw => by go_simp) C0 ?_
          simp only [Act.put, List.setIfInBounds_toArray, List.set_cons_zero, List.set_cons_succ]
          refine take_at 3 (some 161) (.int .i64 c) rfl rfl (by kernel_rfl) (by kernel_rfl) (by kernel_rfl) (fun _ _ _ h => h) (by rfl) (fun W hSw => by go_simp) C0 ?_
          simp only [Act.put, List.setIfInBounds_toArray, List.set_cons_zero, List.set_cons_succ]
          refine take_at 4 (some 162) (.int .i64 q) rfl rfl (by kernel_rfl) (by kernel_rfl) (by kernel_rfl) (fun _ _ _ h => h) (by rfl) (fun W hSw => by go_simp) C0 ?_
          simp only [Act.put, List.setIfInBounds_toArray, List.set_cons_zero, List.set_cons_succ]
          refine take_at 5 (some 163) (.pointer (some ⟨g, q * 2, none⟩)) rfl rfl (by kernel_rfl) (by kernel_rfl) (by kernel_rfl) (fun _ _ _ h => h) (by rfl) (fun W hSw => by go_simp) C0 ?_
          simp only [Act.put, List.setIfInBounds_toArray, List.set_cons_zero, List.set_cons_succ]
          refine take_at 6 (some 164) (.agg #[tx u.1, tx u.2]) rfl rfl (by kernel_rfl) (by kernel_rfl) (by kernel_rfl) (fun _ _ _ h => h) (by rfl) (fun W hSw => by have e0 := m0 W hSw; have e1 := m1 W hSw; go_simp) C0 ?_
          simp only [Act.put, List.setIfInBounds_toArray, List.set_cons_zero, List.set_cons_succ]
          refine take_at 7 (some 165) (.slice (some ⟨g, 0, none⟩) N cap) rfl rfl (by kernel_rfl) (by kernel_rfl) (by kernel_rfl) (fun _ _ _ h => h) (by rfl) (fun W hSw => by go_simp) C0 ?_
          simp only [Act.put, List.setIfInBounds_toArray, List.set_cons_zero, List.set_cons_succ]
          refine take_at 8 (some 166) (.int .i64 c) rfl rfl (by kernel_rfl) (by kernel_rfl) (by kernel_rfl) (fun _ _ _ h => h) (by rfl) (fun W hSw => by go_simp) C0 ?_
          simp only [Act.put, List.setIfInBounds_toArray, List.set_cons_zero, List.set_cons_succ]
          refine take_at 9 (some 167) (.pointer (some ⟨g, c * 2, none⟩)) rfl rfl (by kernel_rfl) (by kernel_rfl) (by kernel_rfl) (fun _ _ _ h => h) (by rfl) (fun W hSw => by go_simp) C0 ?_
          simp only [Act.put, List.setIfInBounds_toArray, List.set_cons_zero, List.set_cons_succ]
          refine take_at 10 (some 168) (.agg #[tx v.1, tx v.2]) rfl rfl (by kernel_rfl) (by kernel_rfl) (by kernel_rfl) (fun _ _ _ h => h) (by rfl) (fun W hSw => by have e0 := n0 W hSw; have e1 := n1 W hSw; go_simp) C0 ?_
          simp only [Act.put, List.setIfInBounds_toArray, List.set_cons_zero, List.set_cons_succ]
          refine wpAnyH_ready (rs := [11]) (by kernel_rfl) (by simp) ?_
          refine AllReadyH.cons rfl (fun K hK => ?_) AllReadyH.nil
          go_simp
          refine (byName_any _ _ _).mono ?_
          rintro e y1 ⟨rfl, hy1⟩
          have C1 := Below.chain C0 hy1
          refine hK.out _ _ ?_ (fun _ => ?_)
          · exact C1
          clear hK K
          refine take_at 12 (some 170) (.bool false) rfl rfl (by kernel_rfl) (by kernel_rfl) (by kernel_rfl) (fun _ _ _ h => h) (by rfl) (fun W hSw => by go_simp) C1 ?_
          simp only [Act.put, List.setIfInBounds_toArray, List.set_cons_zero, List.set_cons_succ]
          refine take_at 13 (some 171) (.bool true) rfl rfl (by kernel_rfl) (by kernel_rfl) (by kernel_rfl) (fun _ _ _ h => h) (by rfl) (fun W hSw => by go_simp) C1 ?_
          simp only [Act.put, List.setIfInBounds_toArray, List.set_cons_zero, List.set_cons_succ]
          refine wpAnyH_done (by kernel_rfl) ?_ _
          refine NoPanic.normal ?_
          have o1 := o0.later C1
          have D1 := D0.trans (C1.mono (Nat.le_trans hB0 D0.size))
          clear o0 D0 C0 C1 hy1 m0 m1 n0 n1
          go_wp2_with fail
          go_roundw
          case rel => exact ⟨c + 1, r, by go_num, rfl, by omega, by omega, hrr, HRr, HJ, o1, D1⟩
          case measure => simp [intOf]; omega
      · obtain rfl : st = r := by omega
        obtain ⟨s, Hs⟩ : ∃ s, Hid (st = a + s) := ⟨st - a, by show _ = _; omega⟩
        obtain ⟨ee, HE⟩ : ∃ e, Hid (nn = e + st) := ⟨nn - st, by show _ = _; have := HNN.out; omega⟩
        have hme : m ≤ ee := by have := HE.out; have := HNN.out; omega
        have heb : ee ≤ b := by have := HE.out; have := f5.out; omega
        obtain ⟨e, He⟩ : ∃ e, Hid (ee = m + e) := ⟨ee - m, by show _ = _; omega⟩
        have hW : IntKind.i64.wrap ((nn : Int) - (st : Int)) = (ee : Int) := by rw [IntKind.wrap_i64]; have := HE.out; omega
        have HAr : Hid (st = a + s ∧ ee = m + e ∧ mid = a + (s + e) ∧ s ≤ L.length ∧ e ≤ R.length ∧ a + L.length = m ∧ m + R.length = b) := by
          show _ ∧ _
          have h1 := Hs.out; have h2 := He.out; have h3 := HE.out; have h4 := HNN.out; have h5 := HM.out; have h6 := HB.out
          omega
        have HX : Hid (∀ x ∈ L.take s, ∀ y ∈ R.drop e, ¬ y.1 < x.1) := by
          refine parts_hx hsL hsR HAr.out.2.2.2.1 ?_
          have h1 := HAr.out
          have h3 := HE.out
          rcases HI.out with h | h
          · rcases g1.out with k | k
            · exact Or.inl (by omega)
            · exact Or.inr (Or.inl (by omega))
          · by_cases hs : s = 0
            · exact Or.inl hs
            · by_cases he : e = R.length
              · exact Or.inr (Or.inl he)
              · refine Or.inr (Or.inr ⟨by omega, by omega, ?_⟩)
                rw [show nn - st - m = e from by omega, show st - 1 - a = s - 1 from by omega] at h
                exact h
        have HY : Hid (∀ y ∈ R.take e, ∀ x ∈ L.drop s, y.1 < x.1) := by
          refine parts_hy hsL hsR HAr.out.2.2.2.2.1 ?_
          have h1 := HAr.out
          have h3 := HE.out
          rcases HJ.out with h | h
          · rcases g2.out with k | k
            · exact Or.inl (by omega)
            · exact Or.inr (Or.inl (by omega))
          · by_cases hs : s = L.length
            · exact Or.inl hs
            · by_cases he : e = 0
              · exact Or.inr (Or.inl he)
              · refine Or.inr (Or.inr ⟨by omega, by omega, ?_⟩)
                rw [show nn - 1 - st - m = e - 1 from by omega, show st - a = s from by omega] at h
                exact h
        have hD : Dl = (P ++ L.take s) ++ (L.drop s ++ (R.take e ++ (R.drop e ++ S))) := by
          rw [HD.out]
          conv => lhs; rw [← List.take_append_drop s L, ← List.take_append_drop e R]
          simp only [List.append_assoc]
        clear HD
        rw [hD] at O
        have lL1 : Hid ((L.take s).length = s ∧ (L.drop s).length = L.length - s ∧ (R.take e).length = e ∧ (R.drop e).length = R.length - e) := by show _ ∧ _; have := HAr.out; simp; omega
        clear HI HJ hD HE Hs He g1 g2 f5
        by_cases h11 : st < m
        · by_cases h12 : m < ee
          · have hcall := fun (_ : Unit) => rotate_any g cap base N (P ++ L.take s) (L.drop s) (R.take e) (R.drop e ++ S) st m ee (.func (.func 28) #[] #[]) w0 wr (by have := HAr.out; have := lL1.out; omega) (by have := HAr.out; have := lL1.out; omega) (by have := HAr.out; have := lL1.out; have := HA.out; simp; omega) (by have := HAr.out; have := lL1.out; omega) (by have := HAr.out; have := lL1.out; omega) hN O B
            clear O B
            go_wp2_with fail
            refine (hcall ()).mono ?_
            rintro ez W1 ⟨rfl, O0, B1⟩
            have O1 : Own W1 base (.slice (some ⟨g, 0, none⟩) N cap) (P ++ (L.take s ++ (R.take e ++ (L.drop s ++ (R.drop e ++ S))))) := by rw [List.append_assoc] at O0; exact O0
            clear O0 hcall
            by_cases h21 : a < st
            · by_cases h22 : st < mid
              · have hcall := fun (_ : Unit) => IH P (L.take s) (R.take e) (L.drop s ++ (R.drop e ++ S)) a st mid W1 (by have := HAr.out; omega) (by have := HAr.out; have := lL1.out; omega) (by have := HAr.out; have := lL1.out; omega) HA.out (by have := HAr.out; have := lL1.out; omega) (by have := HAr.out; have := lL1.out; omega) (sorted_take hsL s) (sorted_take hsR e) O1 B1
                clear O1 B1
                go_wp2_with fail
                refine (hcall ()).mono ?_
                rintro ez W2 ⟨rfl, M1, hM1, O2, B2⟩
                have HM1 : Hid _ := hM1
                clear hM1 hcall
                by_cases h31' : mid < ee
                · by_cases h32 : ee < b
                  · have h31 : mid < ee := h31'
                    have hcall := fun (_ : Unit) => IH (P ++ M1) (L.drop s) (R.drop e) S mid ee b W2 (by have := HAr.out; omega) (by have := HAr.out; have := lL1.out; omega) (by have := HAr.out; have := lL1.out; omega) (by have := HAr.out; have := HM1.out.1; have := lL1.out; have := HA.out; simp; omega) (by have := HAr.out; have := lL1.out; omega) (by have := HAr.out; have := lL1.out; omega) (sorted_drop hsL s) (sorted_drop hsR e) (by rw [List.append_assoc]; exact O2) B2
                    clear O2 B2
                    go_wp2_with fail
                    refine (hcall ()).mono ?_
                    rintro ez W3 ⟨rfl, M2, hM2, O3, B3⟩
                    go_wp2_with fail
                    go_end0
                    exact ⟨rfl, M1 ++ M2, merged_all hsL hsR HX.out HY.out HM1.out hM2, by simpa using O3, B3⟩
                  · have hE2 : R.drop e = [] := List.drop_of_length_le (by have := HAr.out; omega)
                    have hM2 : Merged (L.drop s) (R.drop e) (L.drop s) := by rw [hE2]; exact merged_left (sorted_drop hsL s)
                    rw [hE2] at O2
                    have HM2 : Hid _ := hM2
                    clear hM2 hE2
                    go_wp2_with fail
                    go_end0
                    exact ⟨rfl, M1 ++ L.drop s, merged_all hsL hsR HX.out HY.out HM1.out HM2.out, by simpa using O2, B2⟩
                · have hE2 : L.drop s = [] := List.drop_of_length_le (by have := HAr.out; omega)
                  have hM2 : Merged (L.drop s) (R.drop e) (R.drop e) := by rw [hE2]; exact merged_right (sorted_drop hsR e)
                  rw [hE2] at O2
                  have HM2 : Hid _ := hM2
                  clear hM2 hE2
                  go_wp2_with fail
                  go_end0
                  exact ⟨rfl, M1 ++ R.drop e, merged_all hsL hsR HX.out HY.out HM1.out HM2.out, by simpa using O2, B2⟩
              · have hE1 : R.take e = [] := by rw [show e = 0 from by have := HAr.out; omega]; rfl
                have HM1 : Hid (Merged (L.take s) (R.take e) (L.take s)) := by show Merged _ _ _; rw [hE1]; exact merged_left (sorted_take hsL s)
                have O2 : Own W1 base (.slice (some ⟨g, 0, none⟩) N cap) (P ++ (L.take s ++ (L.drop s ++ (R.drop e ++ S)))) := by rw [hE1] at O1; simpa using O1
                have B2 := B1
                clear O1 B1 hE1
                obtain ⟨W2, hW2⟩ : ∃ W, W = W1 := ⟨_, rfl⟩
                rw [← hW2] at O2 B2 ⊢
                clear hW2
                obtain ⟨M1, hM1e⟩ : ∃ q, q = L.take s := ⟨_, rfl⟩
                rw [show P ++ (L.take s ++ (L.drop s ++ (R.drop e ++ S))) = P ++ (M1 ++ (L.drop s ++ (R.drop e ++ S))) from by rw [hM1e]] at O2
                have HM1' : Hid (Merged (L.take s) (R.take e) M1) := by show Merged _ _ _; rw [hM1e]; exact HM1.out
                clear HM1 hM1e
                have HM1 := HM1'
                clear HM1'
                by_cases h31' : mid < ee
                · by_cases h32 : ee < b
                  · have h31 : mid < ee := h31'
                    have hcall := fun (_ : Unit) => IH (P ++ M1) (L.drop s) (R.drop e) S mid ee b W2 (by have := HAr.out; omega) (by have := HAr.out; have := lL1.out; omega) (by have := HAr.out; have := lL1.out; omega) (by have := HAr.out; have := HM1.out.1; have := lL1.out; have := HA.out; simp; omega) (by have := HAr.out; have := lL1.out; omega) (by have := HAr.out; have := lL1.out; omega) (sorted_drop hsL s) (sorted_drop hsR e) (by rw [List.append_assoc]; exact O2) B2
                    clear O2 B2
                    go_wp2_with fail
                    refine (hcall ()).mono ?_
                    rintro ez W3 ⟨rfl, M2, hM2, O3, B3⟩
                    go_wp2_with fail
                    go_end0
                    exact ⟨rfl, M1 ++ M2, merged_all hsL hsR HX.out HY.out HM1.out hM2, by simpa using O3, B3⟩
                  · have hE2 : R.drop e = [] := List.drop_of_length_le (by have := HAr.out; omega)
                    have hM2 : Merged (L.drop s) (R.drop e) (L.drop s) := by rw [hE2]; exact merged_left (sorted_drop hsL s)
                    rw [hE2] at O2
                    have HM2 : Hid _ := hM2
                    clear hM2 hE2
                    go_wp2_with fail
                    go_end0
                    exact ⟨rfl, M1 ++ L.drop s, merged_all hsL hsR HX.out HY.out HM1.out HM2.out, by simpa using O2, B2⟩
                · have hE2 : L.drop s = [] := List.drop_of_length_le (by have := HAr.out; omega)
                  have hM2 : Merged (L.drop s) (R.drop e) (R.drop e) := by rw [hE2]; exact merged_right (sorted_drop hsR e)
                  rw [hE2] at O2
                  have HM2 : Hid _ := hM2
                  clear hM2 hE2
                  go_wp2_with fail
                  go_end0
                  exact ⟨rfl, M1 ++ R.drop e, merged_all hsL hsR HX.out HY.out HM1.out HM2.out, by simpa using O2, B2⟩
            · have hE1 : L.take s = [] := by rw [show s = 0 from by have := HAr.out; omega]; rfl
              have HM1 : Hid (Merged (L.take s) (R.take e) (R.take e)) := by show Merged _ _ _; rw [hE1]; exact merged_right (sorted_take hsR e)
              have O2 : Own W1 base (.slice (some ⟨g, 0, none⟩) N cap) (P ++ (R.take e ++ (L.drop s ++ (R.drop e ++ S)))) := by rw [hE1] at O1; simpa using O1
              have B2 := B1
              clear O1 B1 hE1
              obtain ⟨W2, hW2⟩ : ∃ W, W = W1 := ⟨_, rfl⟩
              rw [← hW2] at O2 B2 ⊢
              clear hW2
              obtain ⟨M1, hM1e⟩ : ∃ q, q = R.take e := ⟨_, rfl⟩
              rw [show P ++ (R.take e ++ (L.drop s ++ (R.drop e ++ S))) = P ++ (M1 ++ (L.drop s ++ (R.drop e ++ S))) from by rw [hM1e]] at O2
              have HM1' : Hid (Merged (L.take s) (R.take e) M1) := by show Merged _ _ _; rw [hM1e]; exact HM1.out
              clear HM1 hM1e
              have HM1 := HM1'
              clear HM1'
              by_cases h31' : mid < ee
              · by_cases h32 : ee < b
                · have h31 : mid < ee := h31'
                  have hcall := fun (_ : Unit) => IH (P ++ M1) (L.drop s) (R.drop e) S mid ee b W2 (by have := HAr.out; omega) (by have := HAr.out; have := lL1.out; omega) (by have := HAr.out; have := lL1.out; omega) (by have := HAr.out; have := HM1.out.1; have := lL1.out; have := HA.out; simp; omega) (by have := HAr.out; have := lL1.out; omega) (by have := HAr.out; have := lL1.out; omega) (sorted_drop hsL s) (sorted_drop hsR e) (by rw [List.append_assoc]; exact O2) B2
                  clear O2 B2
                  go_wp2_with fail
                  refine (hcall ()).mono ?_
                  rintro ez W3 ⟨rfl, M2, hM2, O3, B3⟩
                  go_wp2_with fail
                  go_end0
                  exact ⟨rfl, M1 ++ M2, merged_all hsL hsR HX.out HY.out HM1.out hM2, by simpa using O3, B3⟩
                · have hE2 : R.drop e = [] := List.drop_of_length_le (by have := HAr.out; omega)
                  have hM2 : Merged (L.drop s) (R.drop e) (L.drop s) := by rw [hE2]; exact merged_left (sorted_drop hsL s)
                  rw [hE2] at O2
                  have HM2 : Hid _ := hM2
                  clear hM2 hE2
                  go_wp2_with fail
                  go_end0
                  exact ⟨rfl, M1 ++ L.drop s, merged_all hsL hsR HX.out HY.out HM1.out HM2.out, by simpa using O2, B2⟩
              · have hE2 : L.drop s = [] := List.drop_of_length_le (by have := HAr.out; omega)
                have hM2 : Merged (L.drop s) (R.drop e) (R.drop e) := by rw [hE2]; exact merged_right (sorted_drop hsR e)
                rw [hE2] at O2
                have HM2 : Hid _ := hM2
                clear hM2 hE2
                go_wp2_with fail
                go_end0
                exact ⟨rfl, M1 ++ R.drop e, merged_all hsL hsR HX.out HY.out HM1.out HM2.out, by simpa using O2, B2⟩
          · have hE0 : R.take e = [] := by rw [show e = 0 from by have := HAr.out; omega]; rfl
            have O1 : Own wr base (.slice (some ⟨g, 0, none⟩) N cap) (P ++ (L.take s ++ (R.take e ++ (L.drop s ++ (R.drop e ++ S))))) := by rw [hE0] at O ⊢; simpa using O
            clear O hE0
            obtain ⟨W1, hW1⟩ : ∃ W, W = wr := ⟨_, rfl⟩
            rw [← hW1] at O1 B ⊢
            have B1 := B
            clear hW1 B
            by_cases h21 : a < st
            · by_cases h22 : st < mid
              · have hcall := fun (_ : Unit) => IH P (L.take s) (R.take e) (L.drop s ++ (R.drop e ++ S)) a st mid W1 (by have := HAr.out; omega) (by have := HAr.out; have := lL1.out; omega) (by have := HAr.out; have := lL1.out; omega) HA.out (by have := HAr.out; have := lL1.out; omega) (by have := HAr.out; have := lL1.out; omega) (sorted_take hsL s) (sorted_take hsR e) O1 B1
                clear O1 B1
                go_wp2_with fail
                refine (hcall ()).mono ?_
                rintro ez W2 ⟨rfl, M1, hM1, O2, B2⟩
                have HM1 : Hid _ := hM1
                clear hM1 hcall
                by_cases h31' : mid < ee
                · by_cases h32 : ee < b
                  · have h31 : mid < ee := h31'
                    have hcall := fun (_ : Unit) => IH (P ++ M1) (L.drop s) (R.drop e) S mid ee b W2 (by have := HAr.out; omega) (by have := HAr.out; have := lL1.out; omega) (by have := HAr.out; have := lL1.out; omega) (by have := HAr.out; have := HM1.out.1; have := lL1.out; have := HA.out; simp; omega) (by have := HAr.out; have := lL1.out; omega) (by have := HAr.out; have := lL1.out; omega) (sorted_drop hsL s) (sorted_drop hsR e) (by rw [List.append_assoc]; exact O2) B2
                    clear O2 B2
                    go_wp2_with fail
                    refine (hcall ()).mono ?_
                    rintro ez W3 ⟨rfl, M2, hM2, O3, B3⟩
                    go_wp2_with fail
                    go_end0
                    exact ⟨rfl, M1 ++ M2, merged_all hsL hsR HX.out HY.out HM1.out hM2, by simpa using O3, B3⟩
                  · have hE2 : R.drop e = [] := List.drop_of_length_le (by have := HAr.out; omega)
                    have hM2 : Merged (L.drop s) (R.drop e) (L.drop s) := by rw [hE2]; exact merged_left (sorted_drop hsL s)
                    rw [hE2] at O2
                    have HM2 : Hid _ := hM2
                    clear hM2 hE2
                    go_wp2_with fail
                    go_end0
                    exact ⟨rfl, M1 ++ L.drop s, merged_all hsL hsR HX.out HY.out HM1.out HM2.out, by simpa using O2, B2⟩
                · have hE2 : L.drop s = [] := List.drop_of_length_le (by have := HAr.out; omega)
                  have hM2 : Merged (L.drop s) (R.drop e) (R.drop e) := by rw [hE2]; exact merged_right (sorted_drop hsR e)
                  rw [hE2] at O2
                  have HM2 : Hid _ := hM2
                  clear hM2 hE2
                  go_wp2_with fail
                  go_end0
                  exact ⟨rfl, M1 ++ R.drop e, merged_all hsL hsR HX.out HY.out HM1.out HM2.out, by simpa using O2, B2⟩
              · have hE1 : R.take e = [] := by rw [show e = 0 from by have := HAr.out; omega]; rfl
                have HM1 : Hid (Merged (L.take s) (R.take e) (L.take s)) := by show Merged _ _ _; rw [hE1]; exact merged_left (sorted_take hsL s)
                have O2 : Own W1 base (.slice (some ⟨g, 0, none⟩) N cap) (P ++ (L.take s ++ (L.drop s ++ (R.drop e ++ S)))) := by rw [hE1] at O1; simpa using O1
                have B2 := B1
                clear O1 B1 hE1
                obtain ⟨W2, hW2⟩ : ∃ W, W = W1 := ⟨_, rfl⟩
                rw [← hW2] at O2 B2 ⊢
                clear hW2
                obtain ⟨M1, hM1e⟩ : ∃ q, q = L.take s := ⟨_, rfl⟩
                rw [show P ++ (L.take s ++ (L.drop s ++ (R.drop e ++ S))) = P ++ (M1 ++ (L.drop s ++ (R.drop e ++ S))) from by rw [hM1e]] at O2
                have HM1' : Hid (Merged (L.take s) (R.take e) M1) := by show Merged _ _ _; rw [hM1e]; exact HM1.out
                clear HM1 hM1e
                have HM1 := HM1'
                clear HM1'
                by_cases h31' : mid < ee
                · by_cases h32 : ee < b
                  · have h31 : mid < ee := h31'
                    have hcall := fun (_ : Unit) => IH (P ++ M1) (L.drop s) (R.drop e) S mid ee b W2 (by have := HAr.out; omega) (by have := HAr.out; have := lL1.out; omega) (by have := HAr.out; have := lL1.out; omega) (by have := HAr.out; have := HM1.out.1; have := lL1.out; have := HA.out; simp; omega) (by have := HAr.out; have := lL1.out; omega) (by have := HAr.out; have := lL1.out; omega) (sorted_drop hsL s) (sorted_drop hsR e) (by rw [List.append_assoc]; exact O2) B2
                    clear O2 B2
                    go_wp2_with fail
                    refine (hcall ()).mono ?_
                    rintro ez W3 ⟨rfl, M2, hM2, O3, B3⟩
                    go_wp2_with fail
                    go_end0
                    exact ⟨rfl, M1 ++ M2, merged_all hsL hsR HX.out HY.out HM1.out hM2, by simpa using O3, B3⟩
                  · have hE2 : R.drop e = [] := List.drop_of_length_le (by have := HAr.out; omega)
                    have hM2 : Merged (L.drop s) (R.drop e) (L.drop s) := by rw [hE2]; exact merged_left (sorted_drop hsL s)
                    rw [hE2] at O2
                    have HM2 : Hid _ := hM2
                    clear hM2 hE2
                    go_wp2_with fail
                    go_end0
                    exact ⟨rfl, M1 ++ L.drop s, merged_all hsL hsR HX.out HY.out HM1.out HM2.out, by simpa using O2, B2⟩
                · have hE2 : L.drop s = [] := List.drop_of_length_le (by have := HAr.out; omega)
                  have hM2 : Merged (L.drop s) (R.drop e) (R.drop e) := by rw [hE2]; exact merged_right (sorted_drop hsR e)
                  rw [hE2] at O2
                  have HM2 : Hid _ := hM2
                  clear hM2 hE2
                  go_wp2_with fail
                  go_end0
                  exact ⟨rfl, M1 ++ R.drop e, merged_all hsL hsR HX.out HY.out HM1.out HM2.out, by simpa using O2, B2⟩
            · have hE1 : L.take s = [] := by rw [show s = 0 from by have := HAr.out; omega]; rfl
              have HM1 : Hid (Merged (L.take s) (R.take e) (R.take e)) := by show Merged _ _ _; rw [hE1]; exact merged_right (sorted_take hsR e)
              have O2 : Own W1 base (.slice (some ⟨g, 0, none⟩) N cap) (P ++ (R.take e ++ (L.drop s ++ (R.drop e ++ S)))) := by rw [hE1] at O1; simpa using O1
              have B2 := B1
              clear O1 B1 hE1
              obtain ⟨W2, hW2⟩ : ∃ W, W = W1 := ⟨_, rfl⟩
              rw [← hW2] at O2 B2 ⊢
              clear hW2
              obtain ⟨M1, hM1e⟩ : ∃ q, q = R.take e := ⟨_, rfl⟩
              rw [show P ++ (R.take e ++ (L.drop s ++ (R.drop e ++ S))) = P ++ (M1 ++ (L.drop s ++ (R.drop e ++ S))) from by rw [hM1e]] at O2
              have HM1' : Hid (Merged (L.take s) (R.take e) M1) := by show Merged _ _ _; rw [hM1e]; exact HM1.out
              clear HM1 hM1e
              have HM1 := HM1'
              clear HM1'
              by_cases h31' : mid < ee
              · by_cases h32 : ee < b
                · have h31 : mid < ee := h31'
                  have hcall := fun (_ : Unit) => IH (P ++ M1) (L.drop s) (R.drop e) S mid ee b W2 (by have := HAr.out; omega) (by have := HAr.out; have := lL1.out; omega) (by have := HAr.out; have := lL1.out; omega) (by have := HAr.out; have := HM1.out.1; have := lL1.out; have := HA.out; simp; omega) (by have := HAr.out; have := lL1.out; omega) (by have := HAr.out; have := lL1.out; omega) (sorted_drop hsL s) (sorted_drop hsR e) (by rw [List.append_assoc]; exact O2) B2
                  clear O2 B2
                  go_wp2_with fail
                  refine (hcall ()).mono ?_
                  rintro ez W3 ⟨rfl, M2, hM2, O3, B3⟩
                  go_wp2_with fail
                  go_end0
                  exact ⟨rfl, M1 ++ M2, merged_all hsL hsR HX.out HY.out HM1.out hM2, by simpa using O3, B3⟩
                · have hE2 : R.drop e = [] := List.drop_of_length_le (by have := HAr.out; omega)
                  have hM2 : Merged (L.drop s) (R.drop e) (L.drop s) := by rw [hE2]; exact merged_left (sorted_drop hsL s)
                  rw [hE2] at O2
                  have HM2 : Hid _ := hM2
                  clear hM2 hE2
                  go_wp2_with fail
                  go_end0
                  exact ⟨rfl, M1 ++ L.drop s, merged_all hsL hsR HX.out HY.out HM1.out HM2.out, by simpa using O2, B2⟩
              · have hE2 : L.drop s = [] := List.drop_of_length_le (by have := HAr.out; omega)
                have hM2 : Merged (L.drop s) (R.drop e) (R.drop e) := by rw [hE2]; exact merged_right (sorted_drop hsR e)
                rw [hE2] at O2
                have HM2 : Hid _ := hM2
                clear hM2 hE2
                go_wp2_with fail
                go_end0
                exact ⟨rfl, M1 ++ R.drop e, merged_all hsL hsR HX.out HY.out HM1.out HM2.out, by simpa using O2, B2⟩
        · have hE0 : L.drop s = [] := List.drop_of_length_le (by have := HAr.out; omega)
          have O1 : Own wr base (.slice (some ⟨g, 0, none⟩) N cap) (P ++ (L.take s ++ (R.take e ++ (L.drop s ++ (R.drop e ++ S))))) := by rw [hE0] at O ⊢; simpa using O
          clear O hE0
          obtain ⟨W1, hW1⟩ : ∃ W, W = wr := ⟨_, rfl⟩
          rw [← hW1] at O1 B ⊢
          have B1 := B
          clear hW1 B
          by_cases h21 : a < st
          · by_cases h22 : st < mid
            · have hcall := fun (_ : Unit) => IH P (L.take s) (R.take e) (L.drop s ++ (R.drop e ++ S)) a st mid W1 (by have := HAr.out; omega) (by have := HAr.out; have := lL1.out; omega) (by have := HAr.out; have := lL1.out; omega) HA.out (by have := HAr.out; have := lL1.out; omega) (by have := HAr.out; have := lL1.out; omega) (sorted_take hsL s) (sorted_take hsR e) O1 B1
              clear O1 B1
              go_wp2_with fail
              refine (hcall ()).mono ?_
              rintro ez W2 ⟨rfl, M1, hM1, O2, B2⟩
              have HM1 : Hid _ := hM1
              clear hM1 hcall
              by_cases h31' : mid < ee
              · by_cases h32 : ee < b
                · have h31 : mid < ee := h31'
                  have hcall := fun (_ : Unit) => IH (P ++ M1) (L.drop s) (R.drop e) S mid ee b W2 (by have := HAr.out; omega) (by have := HAr.out; have := lL1.out; omega) (by have := HAr.out; have := lL1.out; omega) (by have := HAr.out; have := HM1.out.1; have := lL1.out; have := HA.out; simp; omega) (by have := HAr.out; have := lL1.out; omega) (by have := HAr.out; have := lL1.out; omega) (sorted_drop hsL s) (sorted_drop hsR e) (by rw [List.append_assoc]; exact O2) B2
                  clear O2 B2
                  go_wp2_with fail
                  refine (hcall ()).mono ?_
                  rintro ez W3 ⟨rfl, M2, hM2, O3, B3⟩
                  go_wp2_with fail
                  go_end0
                  exact ⟨rfl, M1 ++ M2, merged_all hsL hsR HX.out HY.out HM1.out hM2, by simpa using O3, B3⟩
                · have hE2 : R.drop e = [] := List.drop_of_length_le (by have := HAr.out; omega)
                  have hM2 : Merged (L.drop s) (R.drop e) (L.drop s) := by rw [hE2]; exact merged_left (sorted_drop hsL s)
                  rw [hE2] at O2
                  have HM2 : Hid _ := hM2
                  clear hM2 hE2
                  go_wp2_with fail
                  go_end0
                  exact ⟨rfl, M1 ++ L.drop s, merged_all hsL hsR HX.out HY.out HM1.out HM2.out, by simpa using O2, B2⟩
              · have hE2 : L.drop s = [] := List.drop_of_length_le (by have := HAr.out; omega)
                have hM2 : Merged (L.drop s) (R.drop e) (R.drop e) := by rw [hE2]; exact merged_right (sorted_drop hsR e)
                rw [hE2] at O2
                have HM2 : Hid _ := hM2
                clear hM2 hE2
                go_wp2_with fail
                go_end0
                exact ⟨rfl, M1 ++ R.drop e, merged_all hsL hsR HX.out HY.out HM1.out HM2.out, by simpa using O2, B2⟩
            · have hE1 : R.take e = [] := by rw [show e = 0 from by have := HAr.out; omega]; rfl
              have HM1 : Hid (Merged (L.take s) (R.take e) (L.take s)) := by show Merged _ _ _; rw [hE1]; exact merged_left (sorted_take hsL s)
              have O2 : Own W1 base (.slice (some ⟨g, 0, none⟩) N cap) (P ++ (L.take s ++ (L.drop s ++ (R.drop e ++ S)))) := by rw [hE1] at O1; simpa using O1
              have B2 := B1
              clear O1 B1 hE1
              obtain ⟨W2, hW2⟩ : ∃ W, W = W1 := ⟨_, rfl⟩
              rw [← hW2] at O2 B2 ⊢
              clear hW2
              obtain ⟨M1, hM1e⟩ : ∃ q, q = L.take s := ⟨_, rfl⟩
              rw [show P ++ (L.take s ++ (L.drop s ++ (R.drop e ++ S))) = P ++ (M1 ++ (L.drop s ++ (R.drop e ++ S))) from by rw [hM1e]] at O2
              have HM1' : Hid (Merged (L.take s) (R.take e) M1) := by show Merged _ _ _; rw [hM1e]; exact HM1.out
              clear HM1 hM1e
              have HM1 := HM1'
              clear HM1'
              by_cases h31' : mid < ee
              · by_cases h32 : ee < b
                · have h31 : mid < ee := h31'
                  have hcall := fun (_ : Unit) => IH (P ++ M1) (L.drop s) (R.drop e) S mid ee b W2 (by have := HAr.out; omega) (by have := HAr.out; have := lL1.out; omega) (by have := HAr.out; have := lL1.out; omega) (by have := HAr.out; have := HM1.out.1; have := lL1.out; have := HA.out; simp; omega) (by have := HAr.out; have := lL1.out; omega) (by have := HAr.out; have := lL1.out; omega) (sorted_drop hsL s) (sorted_drop hsR e) (by rw [List.append_assoc]; exact O2) B2
                  clear O2 B2
                  go_wp2_with fail
                  refine (hcall ()).mono ?_
                  rintro ez W3 ⟨rfl, M2, hM2, O3, B3⟩
                  go_wp2_with fail
                  go_end0
                  exact ⟨rfl, M1 ++ M2, merged_all hsL hsR HX.out HY.out HM1.out hM2, by simpa using O3, B3⟩
                · have hE2 : R.drop e = [] := List.drop_of_length_le (by have := HAr.out; omega)
                  have hM2 : Merged (L.drop s) (R.drop e) (L.drop s) := by rw [hE2]; exact merged_left (sorted_drop hsL s)
                  rw [hE2] at O2
                  have HM2 : Hid _ := hM2
                  clear hM2 hE2
                  go_wp2_with fail
                  go_end0
                  exact ⟨rfl, M1 ++ L.drop s, merged_all hsL hsR HX.out HY.out HM1.out HM2.out, by simpa using O2, B2⟩
              · have hE2 : L.drop s = [] := List.drop_of_length_le (by have := HAr.out; omega)
                have hM2 : Merged (L.drop s) (R.drop e) (R.drop e) := by rw [hE2]; exact merged_right (sorted_drop hsR e)
                rw [hE2] at O2
                have HM2 : Hid _ := hM2
                clear hM2 hE2
                go_wp2_with fail
                go_end0
                exact ⟨rfl, M1 ++ R.drop e, merged_all hsL hsR HX.out HY.out HM1.out HM2.out, by simpa using O2, B2⟩
          · have hE1 : L.take s = [] := by rw [show s = 0 from by have := HAr.out; omega]; rfl
            have HM1 : Hid (Merged (L.take s) (R.take e) (R.take e)) := by show Merged _ _ _; rw [hE1]; exact merged_right (sorted_take hsR e)
            have O2 : Own W1 base (.slice (some ⟨g, 0, none⟩) N cap) (P ++ (R.take e ++ (L.drop s ++ (R.drop e ++ S)))) := by rw [hE1] at O1; simpa using O1
            have B2 := B1
            clear O1 B1 hE1
            obtain ⟨W2, hW2⟩ : ∃ W, W = W1 := ⟨_, rfl⟩
            rw [← hW2] at O2 B2 ⊢
            clear hW2
            obtain ⟨M1, hM1e⟩ : ∃ q, q = R.take e := ⟨_, rfl⟩
            rw [show P ++ (R.take e ++ (L.drop s ++ (R.drop e ++ S))) = P ++ (M1 ++ (L.drop s ++ (R.drop e ++ S))) from by rw [hM1e]] at O2
            have HM1' : Hid (Merged (L.take s) (R.take e) M1) := by show Merged _ _ _; rw [hM1e]; exact HM1.out
            clear HM1 hM1e
            have HM1 := HM1'
            clear HM1'
            by_cases h31' : mid < ee
            · by_cases h32 : ee < b
              · have h31 : mid < ee := h31'
                have hcall := fun (_ : Unit) => IH (P ++ M1) (L.drop s) (R.drop e) S mid ee b W2 (by have := HAr.out; omega) (by have := HAr.out; have := lL1.out; omega) (by have := HAr.out; have := lL1.out; omega) (by have := HAr.out; have := HM1.out.1; have := lL1.out; have := HA.out; simp; omega) (by have := HAr.out; have := lL1.out; omega) (by have := HAr.out; have := lL1.out; omega) (sorted_drop hsL s) (sorted_drop hsR e) (by rw [List.append_assoc]; exact O2) B2
                clear O2 B2
                go_wp2_with fail
                refine (hcall ()).mono ?_
                rintro ez W3 ⟨rfl, M2, hM2, O3, B3⟩
                go_wp2_with fail
                go_end0
                exact ⟨rfl, M1 ++ M2, merged_all hsL hsR HX.out HY.out HM1.out hM2, by simpa using O3, B3⟩
              · have hE2 : R.drop e = [] := List.drop_of_length_le (by have := HAr.out; omega)
                have hM2 : Merged (L.drop s) (R.drop e) (L.drop s) := by rw [hE2]; exact merged_left (sorted_drop hsL s)
                rw [hE2] at O2
                have HM2 : Hid _ := hM2
                clear hM2 hE2
                go_wp2_with fail
                go_end0
                exact ⟨rfl, M1 ++ L.drop s, merged_all hsL hsR HX.out HY.out HM1.out HM2.out, by simpa using O2, B2⟩
            · have hE2 : L.drop s = [] := List.drop_of_length_le (by have := HAr.out; omega)
              have hM2 : Merged (L.drop s) (R.drop e) (R.drop e) := by rw [hE2]; exact merged_right (sorted_drop hsR e)
              rw [hE2] at O2
              have HM2 : Hid _ := hM2
              clear hM2 hE2
              go_wp2_with fail
              go_end0
              exact ⟨rfl, M1 ++ R.drop e, merged_all hsL hsR HX.out HY.out HM1.out HM2.out, by simpa using O2, B2⟩
  · have hmm' : m ≤ mid := by omega
    obtain ⟨s0, HS⟩ : ∃ n, Hid (n = a) := ⟨_, rfl⟩
    obtain ⟨r0, HR⟩ : ∃ n, Hid (n = m) := ⟨_, rfl⟩
    have f1 : a ≤ s0 := by have := HS.out; omega
    have f2 : s0 ≤ r0 := by have := HS.out; have := HR.out; omega
    have f3 : r0 ≤ m := by have := HR.out; omega
    have f4 : r0 ≤ mid := by have := HR.out; omega
    have f5 : Hid (nn ≤ b + s0) := by show _ ≤ _; have := HS.out; have := HNN.out; have := HMM.out; omega
    have g1 : Hid (s0 = a ∨ nn = b + s0) := Or.inl HS.out
    have g2 : Hid (r0 = m ∨ nn = m + r0) := Or.inl HR.out
    go_enter Tryz.func88, Tryz.ntmps88
    go_wp2_with fail
    go_loopw [20, 21] (fun u v wr => ∃ st r : Nat, u = .int .i64 st ∧ v = .int .i64 r ∧ s0 ≤ st ∧ st ≤ r ∧ r ≤ r0 ∧ Hid (st = s0 ∨ ¬ (R.getD (nn - st - m) zz).1 < (L.getD (st - 1 - a) zz).1) ∧ Hid (r = r0 ∨ (R.getD (nn - 1 - r - m) zz).1 < (L.getD (r - a) zz).1) ∧ Own wr base (.slice (some ⟨g, 0, none⟩) N cap) Dl ∧ Below base w0 wr) (fun u v _ => (intOf v).toNat - (intOf u).toNat)
    case atStart => exact ⟨a, m, rfl, rfl, by have := HS.out; omega, by omega, by have := HR.out; omega, Or.inl HS.out.symm, Or.inl HR.out.symm, ho, hbw⟩
    case round =>
      clear ho hbw
      obtain ⟨st, r, rfl, rfl, hst, hsr, hrr, HI, HJ, O, B⟩ := hrel
      by_cases hlt : st < r
      · obtain ⟨c, HC⟩ : ∃ c, Hid (c = (st + r) / 2) := ⟨_, rfl⟩
        have hC : ((st : Int) + (r : Int)) / 2 = (c : Int) := by rw [HC.out]; omega
        have hsc : st ≤ c := by rw [HC.out]; omega
        have hcr : c < r := by rw [HC.out]; omega
        obtain ⟨q, HQ⟩ : ∃ q, Hid (pp = q + c) := ⟨pp - c, by show _ = _; have := HPP.out; have := HNN.out; omega⟩
        have hQ : IntKind.i64.wrap ((pp : Int) - (c : Int)) = (q : Int) := by rw [IntKind.wrap_i64]; have := HQ.out; have := HPP.out; omega
        have hq1 : m ≤ q := by have := HQ.out; have := HPP.out; have := HNN.out; omega
        have hq2 : q < b := by have := HQ.out; have := HPP.out; have := f5.out; omega
        have hqN : q < N := by omega
        have hcN : c < N := by omega
        have EU : Hid (Dl.getD q ([], []) = R.getD (q - m) zz) := by show _ = _; rw [HD.out]; exact row_right HA.out HM.out hq1 (by have := HB.out; omega)
        have EV : Hid (Dl.getD c ([], []) = L.getD (c - a) zz) := by show _ = _; rw [HD.out]; exact row_left HA.out (by omega) (by have := HM.out; omega)
        have e1 : nn - (c + 1) - m = q - m := by have := HQ.out; have := HPP.out; omega
        have e2 : nn - 1 - c - m = q - m := by have := HQ.out; have := HPP.out; omega
        have HL : Hid ((R.getD (q - m) zz).1 < (L.getD (c - a) zz).1 → (c = r0 ∨ (R.getD (nn - 1 - c - m) zz).1 < (L.getD (c - a) zz).1)) := fun k => Or.inr (by rw [e2]; exact k)
        have HG : Hid (¬ (R.getD (q - m) zz).1 < (L.getD (c - a) zz).1 → (c + 1 = s0 ∨ ¬ (R.getD (nn - (c + 1) - m) zz).1 < (L.getD (c + 1 - 1 - a) zz).1)) := fun k => Or.inr (by rw [e1]; exact k)
        clear e1 e2
        generalize hu0 : R.getD (q - m) zz = u at EU
        generalize hv0 : L.getD (c - a) zz = v at EV
        have HU0 : Hid _ := hu0
        have HV0 : Hid _ := hv0
        clear hu0 hv0
        by_cases hc : u.1 < v.1
        · have hc' : Lib.compareBytes u.1 v.1 < 0 := by have := cmpB_lt u.1 v.1; rw [decide_eq_true hc, decide_eq_true_eq] at this; exact this
          have HRr : Hid _ := HL.out (by rw [HU0.out, HV0.out]; exact hc)
          clear HL HG HJ hc HC HU0 HV0
          go_wp2_with fail
          have D0 := B.drew
          have o0 := O.later (below_drew (w := wr))
          obtain ⟨c0, c1⟩ := row_cells o0 q (by omega)
          obtain ⟨d0, d1⟩ := row_cells o0 c (by omega)
          rw [EU.out] at c0 c1
          rw [EV.out] at d0 d1
          have m0 : ∀ W, Below wr.drew.heap.size wr.drew W → W.cell? ⟨g, q * 2, none⟩ = _ := fun W hW => (hW.cell (p := ⟨g, q * 2, none⟩) (World.block_lt_of_cell? _ _ c0)).trans c0
          have m1 : ∀ W, Below wr.drew.heap.size wr.drew W → W.cell? ⟨g, q * 2 + 1, none⟩ = _ := fun W hW => (hW.cell (p := ⟨g, q * 2 + 1, none⟩) (World.block_lt_of_cell? _ _ c1)).trans c1
          have n0 : ∀ W, Below wr.drew.heap.size wr.drew W → W.cell? ⟨g, c * 2, none⟩ = _ := fun W hW => (hW.cell (p := ⟨g, c * 2, none⟩) (World.block_lt_of_cell? _ _ d0)).trans d0
          have n1 : ∀ W, Below wr.drew.heap.size wr.drew W → W.cell? ⟨g, c * 2 + 1, none⟩ = _ := fun W hW => (hW.cell (p := ⟨g, c * 2 + 1, none⟩) (World.block_lt_of_cell? _ _ d1)).trans d1
          clear c0 c1 d0 d1
          have C0 := Below.refl wr.drew.heap.size wr.drew
          refine wp_region_noPanic ?_
          refine wp_region_held_drew (S := fun W => Below wr.drew.heap.size wr.drew W) (by kernel_rfl) ?_ (fun _ => ?_)
          · exact C0
          generalize wr.drew = wd at *
          refine take_at 0 (some 158) (.func (.func 28) #[] #[]) rfl rfl (by kernel_rfl) (by kernel_rfl) (by kernel_rfl) (fun _ _ _ h => h) (by rfl) (fun W hSw => by go_simp) C0 ?_
          simp only [Act.put, List.setIfInBounds_toArray, List.set_cons_zero, List.set_cons_succ]
          refine take_at 1 (some 159) (.slice (some ⟨g, 0, none⟩) N cap) rfl rfl (by kernel_rfl) (by kernel_rfl) (by kernel_rfl) (fun _ _ _ h => h) (by rfl) (fun W hSw => by go_simp) C0 ?_
          simp only [Act.put, List.setIfInBounds_toArray, List.set_cons_zero, List.set_cons_succ]
          refine take_at 2 (some 160) (.int .i64 pp) rfl rfl (by kernel_rfl) (by kernel_rfl) (by kernel_rfl) (fun _ _ _ h => h) (by rfl) (fun W hSw => by go_simp) C0 ?_
          simp only [Act.put, List.setIfInBounds_toArray, List.set_cons_zero, List.set_cons_succ]
          refine take_at 3 (some 161) (.int .i64 c) rfl rfl (by kernel_rfl) (by kernel_rfl) (by kernel_rfl) (fun _ _ _ h => h) (by rfl) (fun W hSw => by go_simp) C0 ?_
          simp only [Act.put, List.setIfInBounds_toArray, List.set_cons_zero, List.set_cons_succ]
          refine take_at 4 (some 162) (.int .i64 q) rfl rfl (by kernel_rfl) (by kernel_rfl) (by kernel_rfl) (fun _ _ _ h => h) (by rfl) (fun W hSw => by go_simp) C0 ?_
          simp only [Act.put, List.setIfInBounds_toArray, List.set_cons_zero, List.set_cons_succ]
          refine take_at 5 (some 163) (.pointer (some ⟨g, q * 2, none⟩)) rfl rfl (by kernel_rfl) (by kernel_rfl) (by kernel_rfl) (fun _ _ _ h => h) (by rfl) (fun W hSw => by go_simp) C0 ?_
          simp only [Act.put, List.setIfInBounds_toArray, List.set_cons_zero, List.set_cons_succ]
          refine take_at 6 (some 164) (.agg #[tx u.1, tx u.2]) rfl rfl (by kernel_rfl) (by kernel_rfl) (by kernel_rfl) (fun _ _ _ h => h) (by rfl) (fun W hSw => by have e0 := m0 W hSw; have e1 := m1 W hSw; go_simp) C0 ?_
          simp only [Act.put, List.setIfInBounds_toArray, List.set_cons_zero, List.set_cons_succ]
          refine take_at 7 (some 165) (.slice (some ⟨g, 0, none⟩) N cap) rfl rfl (by kernel_rfl) (by kernel_rfl) (by kernel_rfl) (fun _ _ _ h => h) (by rfl) (fun W hSw => by go_simp) C0 ?_
          simp only [Act.put, List.setIfInBounds_toArray, List.set_cons_zero, List.set_cons_succ]
          refine take_at 8 (some 166) (.int .i64 c) rfl rfl (by kernel_rfl) (by kernel_rfl) (by kernel_rfl) (fun _ _ _ h => h) (by rfl) (fun W hSw => by go_simp) C0 ?_
          simp only [Act.put, List.setIfInBounds_toArray, List.set_cons_zero, List.set_cons_succ]
          refine take_at 9 (some 167) (.pointer (some ⟨g, c * 2, none⟩)) rfl rfl (by kernel_rfl) (by kernel_rfl) (by kernel_rfl) (fun _ _ _ h => h) (by rfl) (fun W hSw => by go_simp) C0 ?_
          simp only [Act.put, List.setIfInBounds_toArray, List.set_cons_zero, List.set_cons_succ]
          refine take_at 10 (some 168) (.agg #[tx v.1, tx v.2]) rfl rfl (by kernel_rfl) (by kernel_rfl) (by kernel_rfl) (fun _ _ _ h => h) (by rfl) (fun W hSw => by have e0 := n0 W hSw; have e1 := n1 W hSw; go_simp) C0 ?_
          simp only [Act.put, List.setIfInBounds_toArray, List.set_cons_zero, List.set_cons_succ]
          refine wpAnyH_ready (rs := [11]) (by kernel_rfl) (by simp) ?_
          refine AllReadyH.cons rfl (fun K hK => ?_) AllReadyH.nil
          go_simp
          refine (byName_any _ _ _).mono ?_
          rintro e y1 ⟨rfl, hy1⟩
          have C1 := Below.chain C0 hy1
          refine hK.out _ _ ?_ (fun _ => ?_)
          · exact C1
          clear hK K
          refine take_at 12 (some 170) (.bool true) rfl rfl (by kernel_rfl) (by kernel_rfl) (by kernel_rfl) (fun _ _ _ h => h) (by rfl) (fun W hSw => by go_simp) C1 ?_
          simp only [Act.put, List.setIfInBounds_toArray, List.set_cons_zero, List.set_cons_succ]
          refine take_at 13 (some 171) (.bool false) rfl rfl (by kernel_rfl) (by kernel_rfl) (by kernel_rfl) (fun _ _ _ h => h) (by rfl) (fun W hSw => by go_simp) C1 ?_
          simp only [Act.put, List.setIfInBounds_toArray, List.set_cons_zero, List.set_cons_succ]
          refine wpAnyH_done (by kernel_rfl) ?_ _
          refine NoPanic.normal ?_
          have o1 := o0.later C1
          have D1 := D0.trans (C1.mono (Nat.le_trans hB0 D0.size))
          clear o0 D0 C0 C1 hy1 m0 m1 n0 n1
          go_wp2_with fail
          go_roundw
          case rel => exact ⟨st, c, rfl, rfl, hst, hsc, by omega, HI, HRr, o1, D1⟩
          case measure => simp [intOf]; omega
        · have hc' : ¬ Lib.compareBytes u.1 v.1 < 0 := by have := cmpB_lt u.1 v.1; rw [decide_eq_false hc, decide_eq_false_iff_not] at this; exact this
          have HRr : Hid _ := HG.out (by rw [HU0.out, HV0.out]; exact hc)
          clear HL HG HI hc HC HU0 HV0
          go_wp2_with fail
          have D0 := B.drew
          have o0 := O.later (below_drew (w := wr))
          obtain ⟨c0, c1⟩ := row_cells o0 q (by omega)
          obtain ⟨d0, d1⟩ := row_cells o0 c (by omega)
          rw [EU.out] at c0 c1
          rw [EV.out] at d0 d1
          have m0 : ∀ W, Below wr.drew.heap.size wr.drew W → W.cell? ⟨g, q * 2, none⟩ = _ := fun W hW => (hW.cell (p := ⟨g, q * 2, none⟩) (World.block_lt_of_cell? _ _ c0)).trans c0
          have m1 : ∀ W, Below wr.drew.heap.size wr.drew W → W.cell? ⟨g, q * 2 + 1, none⟩ = _ := fun W hW => (hW.cell (p := ⟨g, q * 2 + 1, none⟩) (World.block_lt_of_cell? _ _ c1)).trans c1
          have n0 : ∀ W, Below wr.drew.heap.size wr.drew W → W.cell? ⟨g, c * 2, none⟩ = _ := fun W hW => (hW.cell (p := ⟨g, c * 2, none⟩) (World.block_lt_of_cell? _ _ d0)).trans d0
          have n1 : ∀ W, Below wr.drew.heap.size wr.drew W → W.cell? ⟨g, c * 2 + 1, none⟩ = _ := fun W hW => (hW.cell (p := ⟨g, c * 2 + 1, none⟩) (World.block_lt_of_cell? _ _ d1)).trans d1
          clear c0 c1 d0 d1
          have C0 := Below.refl wr.drew.heap.size wr.drew
          refine wp_region_noPanic ?_
          refine wp_region_held_drew (S := fun W => Below wr.drew.heap.size wr.drew W) (by kernel_rfl) ?_ (fun _ => ?_)
          · exact C0
          generalize wr.drew = wd at *
          refine take_at 0 (some 158) (.func (.func 28) #[] #[]) rfl rfl (by kernel_rfl) (by kernel_rfl) (by kernel_rfl) (fun _ _ _ h => h) (by rfl) (fun W hSw => by go_simp) C0 ?_
          simp only [Act.put, List.setIfInBounds_toArray, List.set_cons_zero, List.set_cons_succ]
          refine take_at 1 (some 159) (.slice (some ⟨g, 0, none⟩) N cap) rfl rfl (by kernel_rfl) (by kernel_rfl) (by kernel_rfl) (fun _ _ _ h => h) (by rfl) (fun W hSw => by go_simp) C0 ?_
          simp only [Act.put, List.setIfInBounds_toArray, List.set_cons_zero, List.set_cons_succ]
          refine take_at 2 (some 160) (.int .i64 pp) rfl rfl (by kernel_rfl) (by kernel_rfl) (by kernel_rfl) (fun _ _ _ h => h) (by rfl) (fun W hSw => by go_simp) C0 ?_
          simp only [Act.put, List.setIfInBounds_toArray, List.set_cons_zero, List.set_cons_succ]
          refine take_at 3 (some 161) (.int .i64 c) rfl rfl (by kernel_rfl) (by kernel_rfl) (by kernel_rfl) (fun _ _ _ h => h) (by rfl) (fun W hSw => by go_simp) C0 ?_
          simp only [Act.put, List.setIfInBounds_toArray, List.set_cons_zero, List.set_cons_succ]
          refine take_at 4 (some 162) (.int .i64 q) rfl rfl (by kernel_rfl) (by kernel_rfl) (by kernel_rfl) (fun _ _ _ h => h) (by rfl) (fun W hSw => by go_simp) C0 ?_
          simp only [Act.put, List.setIfInBounds_toArray, List.set_cons_zero, List.set_cons_succ]
          refine take_at 5 (some 163) (.pointer (some ⟨g, q * 2, none⟩)) rfl rfl (by kernel_rfl) (by kernel_rfl) (by kernel_rfl) (fun _ _ _ h => h) (by rfl) (fun W hSw => by go_simp) C0 ?_
          simp only [Act.put, List.setIfInBounds_toArray, List.set_cons_zero, List.set_cons_succ]
          refine take_at 6 (some 164) (.agg #[tx u.1, tx u.2]) rfl rfl (by kernel_rfl) (by kernel_rfl) (by kernel_rfl) (fun _ _ _ h => h) (by rfl) (fun W hSw => by have e0 := m0 W hSw; have e1 := m1 W hSw; go_simp) C0 ?_
          simp only [Act.put, List.setIfInBounds_toArray, List.set_cons_zero, List.set_cons_succ]
          refine take_at 7 (some 165) (.slice (some ⟨g, 0, none⟩) N cap) rfl rfl (by kernel_rfl) (by kernel_rfl) (by kernel_rfl) (fun _ _ _ h => h) (by rfl) (fun W hSw => by go_simp) C0 ?_
          simp only [Act.put, List.setIfInBounds_toArray, List.set_cons_zero, List.set_cons_succ]
          refine take_at 8 (some 166) (.int .i64 c) rfl rfl (by kernel_rfl) (by kernel_rfl) (by kernel_rfl) (fun _ _ _ h => h) (by rfl) (fun W hSw => by go_simp) C0 ?_
          simp only [Act.put, List.setIfInBounds_toArray, List.set_cons_zero, List.set_cons_succ]
          refine take_at 9 (some 167) (.pointer (some ⟨g, c * 2, none⟩)) rfl rfl (by kernel_rfl) (by kernel_rfl) (by kernel_rfl) (fun _ _ _ h => h) (by rfl) (fun W hSw => by go_simp) C0 ?_
          simp only [Act.put, List.setIfInBounds_toArray, List.set_cons_zero, List.set_cons_succ]
          refine take_at 10 (some 168) (.agg #[tx v.1, tx v.2]) rfl rfl (by kernel_rfl) (by kernel_rfl) (by kernel_rfl) (fun _ _ _ h => h) (by rfl) (fun W hSw => by have e0 := n0 W hSw; have e1 := n1 W hSw; go_simp) C0 ?_
          simp only [Act.put, List.setIfInBounds_toArray, List.set_cons_zero, List.set_cons_succ]
          refine wpAnyH_ready (rs := [11]) (by kernel_rfl) (by simp) ?_
          refine AllReadyH.cons rfl (fun K hK => ?_) AllReadyH.nil
          go_simp
          refine (byName_any _ _ _).mono ?_
          rintro e y1 ⟨rfl, hy1⟩
          have C1 := Below.chain C0 hy1
          refine hK.out _ _ ?_ (fun _ => ?_)
          · exact C1
          clear hK K
          refine take_at 12 (some 170) (.bool false) rfl rfl (by kernel_rfl) (by kernel_rfl) (by kernel_rfl) (fun _ _ _ h => h) (by rfl) (fun W hSw => by go_simp) C1 ?_
          simp only [Act.put, List.setIfInBounds_toArray, List.set_cons_zero, List.set_cons_succ]
          refine take_at 13 (some 171) (.bool true) rfl rfl (by kernel_rfl) (by kernel_rfl) (by kernel_rfl) (fun _ _ _ h => h) (by rfl) (fun W hSw => by go_simp) C1 ?_
          simp only [Act.put, List.setIfInBounds_toArray, List.set_cons_zero, List.set_cons_succ]
          refine wpAnyH_done (by kernel_rfl) ?_ _
          refine NoPanic.normal ?_
          have o1 := o0.later C1
          have D1 := D0.trans (C1.mono (Nat.le_trans hB0 D0.size))
          clear o0 D0 C0 C1 hy1 m0 m1 n0 n1
          go_wp2_with fail
          go_roundw
          case rel => exact ⟨c + 1, r, by go_num, rfl, by omega, by omega, hrr, HRr, HJ, o1, D1⟩
          case measure => simp [intOf]; omega
      · obtain rfl : st = r := by omega
        obtain ⟨s, Hs⟩ : ∃ s, Hid (st = a + s) := ⟨st - a, by show _ = _; omega⟩
        obtain ⟨ee, HE⟩ : ∃ e, Hid (nn = e + st) := ⟨nn - st, by show _ = _; have := HNN.out; omega⟩
        have hme : m ≤ ee := by have := HE.out; have := HNN.out; omega
        have heb : ee ≤ b := by have := HE.out; have := f5.out; omega
        obtain ⟨e, He⟩ : ∃ e, Hid (ee = m + e) := ⟨ee - m, by show _ = _; omega⟩
        have hW : IntKind.i64.wrap ((nn : Int) - (st : Int)) = (ee : Int) := by rw [IntKind.wrap_i64]; have := HE.out; omega
        have HAr : Hid (st = a + s ∧ ee = m + e ∧ mid = a + (s + e) ∧ s ≤ L.length ∧ e ≤ R.length ∧ a + L.length = m ∧ m + R.length = b) := by
          show _ ∧ _
          have h1 := Hs.out; have h2 := He.out; have h3 := HE.out; have h4 := HNN.out; have h5 := HM.out; have h6 := HB.out
          omega
        have HX : Hid (∀ x ∈ L.take s, ∀ y ∈ R.drop e, ¬ y.1 < x.1) := by
          refine parts_hx hsL hsR HAr.out.2.2.2.1 ?_
          have h1 := HAr.out
          have h3 := HE.out
          rcases HI.out with h | h
          · rcases g1.out with k | k
            · exact Or.inl (by omega)
            · exact Or.inr (Or.inl (by omega))
          · by_cases hs : s = 0
            · exact Or.inl hs
            · by_cases he : e = R.length
              · exact Or.inr (Or.inl he)
              · refine Or.inr (Or.inr ⟨by omega, by omega, ?_⟩)
                rw [show nn - st - m = e from by omega, show st - 1 - a = s - 1 from by omega] at h
                exact h
        have HY : Hid (∀ y ∈ R.take e, ∀ x ∈ L.drop s, y.1 < x.1) := by
          refine parts_hy hsL hsR HAr.out.2.2.2.2.1 ?_
          have h1 := HAr.out
          have h3 := HE.out
          rcases HJ.out with h | h
          · rcases g2.out with k | k
            · exact Or.inl (by omega)
            · exact Or.inr (Or.inl (by omega))
          · by_cases hs : s = L.length
            · exact Or.inl hs
            · by_cases he : e = 0
              · exact Or.inr (Or.inl he)
              · refine Or.inr (Or.inr ⟨by omega, by omega, ?_⟩)
                rw [show nn - 1 - st - m = e - 1 from by omega, show st - a = s from by omega] at h
                exact h
        have hD : Dl = (P ++ L.take s) ++ (L.drop s ++ (R.take e ++ (R.drop e ++ S))) := by
          rw [HD.out]
          conv => lhs; rw [← List.take_append_drop s L, ← List.take_append_drop e R]
          simp only [List.append_assoc]
        clear HD
        rw [hD] at O
        have lL1 : Hid ((L.take s).length = s ∧ (L.drop s).length = L.length - s ∧ (R.take e).length = e ∧ (R.drop e).length = R.length - e) := by show _ ∧ _; have := HAr.out; simp; omega
        clear HI HJ hD HE Hs He g1 g2 f5
        by_cases h11 : st < m
        · by_cases h12 : m < ee
          · have hcall := fun (_ : Unit) => rotate_any g cap base N (P ++ L.take s) (L.drop s) (R.take e) (R.drop e ++ S) st m ee (.func (.func 28) #[] #[]) w0 wr (by have := HAr.out; have := lL1.out; omega) (by have := HAr.out; have := lL1.out; omega) (by have := HAr.out; have := lL1.out; have := HA.out; simp; omega) (by have := HAr.out; have := lL1.out; omega) (by have := HAr.out; have := lL1.out; omega) hN O B
            clear O B
            go_wp2_with fail
            refine (hcall ()).mono ?_
            rintro ez W1 ⟨rfl, O0, B1⟩
            have O1 : Own W1 base (.slice (some ⟨g, 0, none⟩) N cap) (P ++ (L.take s ++ (R.take e ++ (L.drop s ++ (R.drop e ++ S))))) := by rw [List.append_assoc] at O0; exact O0
            clear O0 hcall
            by_cases h21 : a < st
            · by_cases h22 : st < mid
              · have hcall := fun (_ : Unit) => IH P (L.take s) (R.take e) (L.drop s ++ (R.drop e ++ S)) a st mid W1 (by have := HAr.out; omega) (by have := HAr.out; have := lL1.out; omega) (by have := HAr.out; have := lL1.out; omega) HA.out (by have := HAr.out; have := lL1.out; omega) (by have := HAr.out; have := lL1.out; omega) (sorted_take hsL s) (sorted_take hsR e) O1 B1
                clear O1 B1
                go_wp2_with fail
                refine (hcall ()).mono ?_
                rintro ez W2 ⟨rfl, M1, hM1, O2, B2⟩
                have HM1 : Hid _ := hM1
                clear hM1 hcall
                by_cases h31' : mid < ee
                · by_cases h32 : ee < b
                  · have h31 : mid < ee := h31'
                    have hcall := fun (_ : Unit) => IH (P ++ M1) (L.drop s) (R.drop e) S mid ee b W2 (by have := HAr.out; omega) (by have := HAr.out; have := lL1.out; omega) (by have := HAr.out; have := lL1.out; omega) (by have := HAr.out; have := HM1.out.1; have := lL1.out; have := HA.out; simp; omega) (by have := HAr.out; have := lL1.out; omega) (by have := HAr.out; have := lL1.out; omega) (sorted_drop hsL s) (sorted_drop hsR e) (by rw [List.append_assoc]; exact O2) B2
                    clear O2 B2
                    go_wp2_with fail
                    refine (hcall ()).mono ?_
                    rintro ez W3 ⟨rfl, M2, hM2, O3, B3⟩
                    go_wp2_with fail
                    go_end0
                    exact ⟨rfl, M1 ++ M2, merged_all hsL hsR HX.out HY.out HM1.out hM2, by simpa using O3, B3⟩
                  · have hE2 : R.drop e = [] := List.drop_of_length_le (by have := HAr.out; omega)
                    have hM2 : Merged (L.drop s) (R.drop e) (L.drop s) := by rw [hE2]; exact merged_left (sorted_drop hsL s)
                    rw [hE2] at O2
                    have HM2 : Hid _ := hM2
                    clear hM2 hE2
                    go_wp2_with fail
                    go_end0
                    exact ⟨rfl, M1 ++ L.drop s, merged_all hsL hsR HX.out HY.out HM1.out HM2.out, by simpa using O2, B2⟩
                · have hE2 : L.drop s = [] := List.drop_of_length_le (by have := HAr.out; omega)
                  have hM2 : Merged (L.drop s) (R.drop e) (R.drop e) := by rw [hE2]; exact merged_right (sorted_drop hsR e)
                  rw [hE2] at O2
                  have HM2 : Hid _ := hM2
                  clear hM2 hE2
                  go_wp2_with fail
                  go_end0
                  exact ⟨rfl, M1 ++ R.drop e, merged_all hsL hsR HX.out HY.out HM1.out HM2.out, by simpa using O2, B2⟩
              · have hE1 : R.take e = [] := by rw [show e = 0 from by have := HAr.out; omega]; rfl
                have HM1 : Hid (Merged (L.take s) (R.take e) (L.take s)) := by show Merged _ _ _; rw [hE1]; exact merged_left (sorted_take hsL s)
                have O2 : Own W1 base (.slice (some ⟨g, 0, none⟩) N cap) (P ++ (L.take s ++ (L.drop s ++ (R.drop e ++ S)))) := by rw [hE1] at O1; simpa using O1
                have B2 := B1
                clear O1 B1 hE1
                obtain ⟨W2, hW2⟩ : ∃ W, W = W1 := ⟨_, rfl⟩
                rw [← hW2] at O2 B2 ⊢
                clear hW2
                obtain ⟨M1, hM1e⟩ : ∃ q, q = L.take s := ⟨_, rfl⟩
                rw [show P ++ (L.take s ++ (L.drop s ++ (R.drop e ++ S))) = P ++ (M1 ++ (L.drop s ++ (R.drop e ++ S))) from by rw [hM1e]] at O2
                have HM1' : Hid (Merged (L.take s) (R.take e) M1) := by show Merged _ _ _; rw [hM1e]; exact HM1.out
                clear HM1 hM1e
                have HM1 := HM1'
                clear HM1'
                by_cases h31' : mid < ee
                · by_cases h32 : ee < b
                  · have h31 : mid < ee := h31'
                    have hcall := fun (_ : Unit) => IH (P ++ M1) (L.drop s) (R.drop e) S mid ee b W2 (by have := HAr.out; omega) (by have := HAr.out; have := lL1.out; omega) (by have := HAr.out; have := lL1.out; omega) (by have := HAr.out; have := HM1.out.1; have := lL1.out; have := HA.out; simp; omega) (by have := HAr.out; have := lL1.out; omega) (by have := HAr.out; have := lL1.out; omega) (sorted_drop hsL s) (sorted_drop hsR e) (by rw [List.append_assoc]; exact O2) B2
                    clear O2 B2
                    go_wp2_with fail
                    refine (hcall ()).mono ?_
                    rintro ez W3 ⟨rfl, M2, hM2, O3, B3⟩
                    go_wp2_with fail
                    go_end0
                    exact ⟨rfl, M1 ++ M2, merged_all hsL hsR HX.out HY.out HM1.out hM2, by simpa using O3, B3⟩
                  · have hE2 : R.drop e = [] := List.drop_of_length_le (by have := HAr.out; omega)
                    have hM2 : Merged (L.drop s) (R.drop e) (L.drop s) := by rw [hE2]; exact merged_left (sorted_drop hsL s)
                    rw [hE2] at O2
                    have HM2 : Hid _ := hM2
                    clear hM2 hE2
                    go_wp2_with fail
                    go_end0
                    exact ⟨rfl, M1 ++ L.drop s, merged_all hsL hsR HX.out HY.out HM1.out HM2.out, by simpa using O2, B2⟩
                · have hE2 : L.drop s = [] := List.drop_of_length_le (by have := HAr.out; omega)
                  have hM2 : Merged (L.drop s) (R.drop e) (R.drop e) := by rw [hE2]; exact merged_right (sorted_drop hsR e)
                  rw [hE2] at O2
                  have HM2 : Hid _ := hM2
                  clear hM2 hE2
                  go_wp2_with fail
                  go_end0
                  exact ⟨rfl, M1 ++ R.drop e, merged_all hsL hsR HX.out HY.out HM1.out HM2.out, by simpa using O2, B2⟩
            · have hE1 : L.take s = [] := by rw [show s = 0 from by have := HAr.out; omega]; rfl
              have HM1 : Hid (Merged (L.take s) (R.take e) (R.take e)) := by show Merged _ _ _; rw [hE1]; exact merged_right (sorted_take hsR e)
              have O2 : Own W1 base (.slice (some ⟨g, 0, none⟩) N cap) (P ++ (R.take e ++ (L.drop s ++ (R.drop e ++ S)))) := by rw [hE1] at O1; simpa using O1
              have B2 := B1
              clear O1 B1 hE1
              obtain ⟨W2, hW2⟩ : ∃ W, W = W1 := ⟨_, rfl⟩
              rw [← hW2] at O2 B2 ⊢
              clear hW2
              obtain ⟨M1, hM1e⟩ : ∃ q, q = R.take e := ⟨_, rfl⟩
              rw [show P ++ (R.take e ++ (L.drop s ++ (R.drop e ++ S))) = P ++ (M1 ++ (L.drop s ++ (R.drop e ++ S))) from by rw [hM1e]] at O2
              have HM1' : Hid (Merged (L.take s) (R.take e) M1) := by show Merged _ _ _; rw [hM1e]; exact HM1.out
              clear HM1 hM1e
              have HM1 := HM1'
              clear HM1'
              by_cases h31' : mid < ee
              · by_cases h32 : ee < b
                · have h31 : mid < ee := h31'
                  have hcall := fun (_ : Unit) => IH (P ++ M1) (L.drop s) (R.drop e) S mid ee b W2 (by have := HAr.out; omega) (by have := HAr.out; have := lL1.out; omega) (by have := HAr.out; have := lL1.out; omega) (by have := HAr.out; have := HM1.out.1; have := lL1.out; have := HA.out; simp; omega) (by have := HAr.out; have := lL1.out; omega) (by have := HAr.out; have := lL1.out; omega) (sorted_drop hsL s) (sorted_drop hsR e) (by rw [List.append_assoc]; exact O2) B2
                  clear O2 B2
                  go_wp2_with fail
                  refine (hcall ()).mono ?_
                  rintro ez W3 ⟨rfl, M2, hM2, O3, B3⟩
                  go_wp2_with fail
                  go_end0
                  exact ⟨rfl, M1 ++ M2, merged_all hsL hsR HX.out HY.out HM1.out hM2, by simpa using O3, B3⟩
                · have hE2 : R.drop e = [] := List.drop_of_length_le (by have := HAr.out; omega)
                  have hM2 : Merged (L.drop s) (R.drop e) (L.drop s) := by rw [hE2]; exact merged_left (sorted_drop hsL s)
                  rw [hE2] at O2
                  have HM2 : Hid _ := hM2
                  clear hM2 hE2
                  go_wp2_with fail
                  go_end0
                  exact ⟨rfl, M1 ++ L.drop s, merged_all hsL hsR HX.out HY.out HM1.out HM2.out, by simpa using O2, B2⟩
              · have hE2 : L.drop s = [] := List.drop_of_length_le (by have := HAr.out; omega)
                have hM2 : Merged (L.drop s) (R.drop e) (R.drop e) := by rw [hE2]; exact merged_right (sorted_drop hsR e)
                rw [hE2] at O2
                have HM2 : Hid _ := hM2
                clear hM2 hE2
                go_wp2_with fail
                go_end0
                exact ⟨rfl, M1 ++ R.drop e, merged_all hsL hsR HX.out HY.out HM1.out HM2.out, by simpa using O2, B2⟩
          · have hE0 : R.take e = [] := by rw [show e = 0 from by have := HAr.out; omega]; rfl
            have O1 : Own wr base (.slice (some ⟨g, 0, none⟩) N cap) (P ++ (L.take s ++ (R.take e ++ (L.drop s ++ (R.drop e ++ S))))) := by rw [hE0] at O ⊢; simpa using O
            clear O hE0
            obtain ⟨W1, hW1⟩ : ∃ W, W = wr := ⟨_, rfl⟩
            rw [← hW1] at O1 B ⊢
            have B1 := B
            clear hW1 B
            by_cases h21 : a < st
            · by_cases h22 : st < mid
              · have hcall := fun (_ : Unit) => IH P (L.take s) (R.take e) (L.drop s ++ (R.drop e ++ S)) a st mid W1 (by have := HAr.out; omega) (by have := HAr.out; have := lL1.out; omega) (by have := HAr.out; have := lL1.out; omega) HA.out (by have := HAr.out; have := lL1.out; omega) (by have := HAr.out; have := lL1.out; omega) (sorted_take hsL s) (sorted_take hsR e) O1 B1
                clear O1 B1
                go_wp2_with fail
                refine (hcall ()).mono ?_
                rintro ez W2 ⟨rfl, M1, hM1, O2, B2⟩
                have HM1 : Hid _ := hM1
                clear hM1 hcall
                by_cases h31' : mid < ee
                · by_cases h32 : ee < b
                  · have h31 : mid < ee := h31'
                    have hcall := fun (_ : Unit) => IH (P ++ M1) (L.drop s) (R.drop e) S mid ee b W2 (by have := HAr.out; omega) (by have := HAr.out; have := lL1.out; omega) (by have := HAr.out; have := lL1.out; omega) (by have := HAr.out; have := HM1.out.1; have := lL1.out; have := HA.out; simp; omega) (by have := HAr.out; have := lL1.out; omega) (by have := HAr.out; have := lL1.out; omega) (sorted_drop hsL s) (sorted_drop hsR e) (by rw [List.append_assoc]; exact O2) B2
                    clear O2 B2
                    go_wp2_with fail
                    refine (hcall ()).mono ?_
                    rintro ez W3 ⟨rfl, M2, hM2, O3, B3⟩
                    go_wp2_with fail
                    go_end0
                    exact ⟨rfl, M1 ++ M2, merged_all hsL hsR HX.out HY.out HM1.out hM2, by simpa using O3, B3⟩
                  · have hE2 : R.drop e = [] := List.drop_of_length_le (by have := HAr.out; omega)
                    have hM2 : Merged (L.drop s) (R.drop e) (L.drop s) := by rw [hE2]; exact merged_left (sorted_drop hsL s)
                    rw [hE2] at O2
                    have HM2 : Hid _ := hM2
                    clear hM2 hE2
                    go_wp2_with fail
                    go_end0
                    exact ⟨rfl, M1 ++ L.drop s, merged_all hsL hsR HX.out HY.out HM1.out HM2.out, by simpa using O2, B2⟩
                · have hE2 : L.drop s = [] := List.drop_of_length_le (by have := HAr.out; omega)
                  have hM2 : Merged (L.drop s) (R.drop e) (R.drop e) := by rw [hE2]; exact merged_right (sorted_drop hsR e)
                  rw [hE2] at O2
                  have HM2 : Hid _ := hM2
                  clear hM2 hE2
                  go_wp2_with fail
                  go_end0
                  exact ⟨rfl, M1 ++ R.drop e, merged_all hsL hsR HX.out HY.out HM1.out HM2.out, by simpa using O2, B2⟩
              · have hE1 : R.take e = [] := by rw [show e = 0 from by have := HAr.out; omega]; rfl
                have HM1 : Hid (Merged (L.take s) (R.take e) (L.take s)) := by show Merged _ _ _; rw [hE1]; exact merged_left (sorted_take hsL s)
                have O2 : Own W1 base (.slice (some ⟨g, 0, none⟩) N cap) (P ++ (L.take s ++ (L.drop s ++ (R.drop e ++ S)))) := by rw [hE1] at O1; simpa using O1
                have B2 := B1
                clear O1 B1 hE1
                obtain ⟨W2, hW2⟩ : ∃ W, W = W1 := ⟨_, rfl⟩
                rw [← hW2] at O2 B2 ⊢
                clear hW2
                obtain ⟨M1, hM1e⟩ : ∃ q, q = L.take s := ⟨_, rfl⟩
                rw [show P ++ (L.take s ++ (L.drop s ++ (R.drop e ++ S))) = P ++ (M1 ++ (L.drop s ++ (R.drop e ++ S))) from by rw [hM1e]] at O2
                have HM1' : Hid (Merged (L.take s) (R.take e) M1) := by show Merged _ _ _; rw [hM1e]; exact HM1.out
                clear HM1 hM1e
                have HM1 := HM1'
                clear HM1'
                by_cases h31' : mid < ee
                · by_cases h32 : ee < b
                  · have h31 : mid < ee := h31'
                    have hcall := fun (_ : Unit) => IH (P ++ M1) (L.drop s) (R.drop e) S mid ee b W2 (by have := HAr.out; omega) (by have := HAr.out; have := lL1.out; omega) (by have := HAr.out; have := lL1.out; omega) (by have := HAr.out; have := HM1.out.1; have := lL1.out; have := HA.out; simp; omega) (by have := HAr.out; have := lL1.out; omega) (by have := HAr.out; have := lL1.out; omega) (sorted_drop hsL s) (sorted_drop hsR e) (by rw [List.append_assoc]; exact O2) B2
                    clear O2 B2
                    go_wp2_with fail
                    refine (hcall ()).mono ?_
                    rintro ez W3 ⟨rfl, M2, hM2, O3, B3⟩
                    go_wp2_with fail
                    go_end0
                    exact ⟨rfl, M1 ++ M2, merged_all hsL hsR HX.out HY.out HM1.out hM2, by simpa using O3, B3⟩
                  · have hE2 : R.drop e = [] := List.drop_of_length_le (by have := HAr.out; omega)
                    have hM2 : Merged (L.drop s) (R.drop e) (L.drop s) := by rw [hE2]; exact merged_left (sorted_drop hsL s)
                    rw [hE2] at O2
                    have HM2 : Hid _ := hM2
                    clear hM2 hE2
                    go_wp2_with fail
                    go_end0
                    exact ⟨rfl, M1 ++ L.drop s, merged_all hsL hsR HX.out HY.out HM1.out HM2.out, by simpa using O2, B2⟩
                · have hE2 : L.drop s = [] := List.drop_of_length_le (by have := HAr.out; omega)
                  have hM2 : Merged (L.drop s) (R.drop e) (R.drop e) := by rw [hE2]; exact merged_right (sorted_drop hsR e)
                  rw [hE2] at O2
                  have HM2 : Hid _ := hM2
                  clear hM2 hE2
                  go_wp2_with fail
                  go_end0
                  exact ⟨rfl, M1 ++ R.drop e, merged_all hsL hsR HX.out HY.out HM1.out HM2.out, by simpa using O2, B2⟩
            · have hE1 : L.take s = [] := by rw [show s = 0 from by have := HAr.out; omega]; rfl
              have HM1 : Hid (Merged (L.take s) (R.take e) (R.take e)) := by show Merged _ _ _; rw [hE1]; exact merged_right (sorted_take hsR e)
              have O2 : Own W1 base (.slice (some ⟨g, 0, none⟩) N cap) (P ++ (R.take e ++ (L.drop s ++ (R.drop e ++ S)))) := by rw [hE1] at O1; simpa using O1
              have B2 := B1
              clear O1 B1 hE1
              obtain ⟨W2, hW2⟩ : ∃ W, W = W1 := ⟨_, rfl⟩
              rw [← hW2] at O2 B2 ⊢
              clear hW2
              obtain ⟨M1, hM1e⟩ : ∃ q, q = R.take e := ⟨_, rfl⟩
              rw [show P ++ (R.take e ++ (L.drop s ++ (R.drop e ++ S))) = P ++ (M1 ++ (L.drop s ++ (R.drop e ++ S))) from by rw [hM1e]] at O2
              have HM1' : Hid (Merged (L.take s) (R.take e) M1) := by show Merged _ _ _; rw [hM1e]; exact HM1.out
              clear HM1 hM1e
              have HM1 := HM1'
              clear HM1'
              by_cases h31' : mid < ee
              · by_cases h32 : ee < b
                · have h31 : mid < ee := h31'
                  have hcall := fun (_ : Unit) => IH (P ++ M1) (L.drop s) (R.drop e) S mid ee b W2 (by have := HAr.out; omega) (by have := HAr.out; have := lL1.out; omega) (by have := HAr.out; have := lL1.out; omega) (by have := HAr.out; have := HM1.out.1; have := lL1.out; have := HA.out; simp; omega) (by have := HAr.out; have := lL1.out; omega) (by have := HAr.out; have := lL1.out; omega) (sorted_drop hsL s) (sorted_drop hsR e) (by rw [List.append_assoc]; exact O2) B2
                  clear O2 B2
                  go_wp2_with fail
                  refine (hcall ()).mono ?_
                  rintro ez W3 ⟨rfl, M2, hM2, O3, B3⟩
                  go_wp2_with fail
                  go_end0
                  exact ⟨rfl, M1 ++ M2, merged_all hsL hsR HX.out HY.out HM1.out hM2, by simpa using O3, B3⟩
                · have hE2 : R.drop e = [] := List.drop_of_length_le (by have := HAr.out; omega)
                  have hM2 : Merged (L.drop s) (R.drop e) (L.drop s) := by rw [hE2]; exact merged_left (sorted_drop hsL s)
                  rw [hE2] at O2
                  have HM2 : Hid _ := hM2
                  clear hM2 hE2
                  go_wp2_with fail
                  go_end0
                  exact ⟨rfl, M1 ++ L.drop s, merged_all hsL hsR HX.out HY.out HM1.out HM2.out, by simpa using O2, B2⟩
              · have hE2 : L.drop s = [] := List.drop_of_length_le (by have := HAr.out; omega)
                have hM2 : Merged (L.drop s) (R.drop e) (R.drop e) := by rw [hE2]; exact merged_right (sorted_drop hsR e)
                rw [hE2] at O2
                have HM2 : Hid _ := hM2
                clear hM2 hE2
                go_wp2_with fail
                go_end0
                exact ⟨rfl, M1 ++ R.drop e, merged_all hsL hsR HX.out HY.out HM1.out HM2.out, by simpa using O2, B2⟩
        · have hE0 : L.drop s = [] := List.drop_of_length_le (by have := HAr.out; omega)
          have O1 : Own wr base (.slice (some ⟨g, 0, none⟩) N cap) (P ++ (L.take s ++ (R.take e ++ (L.drop s ++ (R.drop e ++ S))))) := by rw [hE0] at O ⊢; simpa using O
          clear O hE0
          obtain ⟨W1, hW1⟩ : ∃ W, W = wr := ⟨_, rfl⟩
          rw [← hW1] at O1 B ⊢
          have B1 := B
          clear hW1 B
          by_cases h21 : a < st
          · by_cases h22 : st < mid
            · have hcall := fun (_ : Unit) => IH P (L.take s) (R.take e) (L.drop s ++ (R.drop e ++ S)) a st mid W1 (by have := HAr.out; omega) (by have := HAr.out; have := lL1.out; omega) (by have := HAr.out; have := lL1.out; omega) HA.out (by have := HAr.out; have := lL1.out; omega) (by have := HAr.out; have := lL1.out; omega) (sorted_take hsL s) (sorted_take hsR e) O1 B1
              clear O1 B1
              go_wp2_with fail
              refine (hcall ()).mono ?_
              rintro ez W2 ⟨rfl, M1, hM1, O2, B2⟩
              have HM1 : Hid _ := hM1
              clear hM1 hcall
              by_cases h31' : mid < ee
              · by_cases h32 : ee < b
                · have h31 : mid < ee := h31'
                  have hcall := fun (_ : Unit) => IH (P ++ M1) (L.drop s) (R.drop e) S mid ee b W2 (by have := HAr.out; omega) (by have := HAr.out; have := lL1.out; omega) (by have := HAr.out; have := lL1.out; omega) (by have := HAr.out; have := HM1.out.1; have := lL1.out; have := HA.out; simp; omega) (by have := HAr.out; have := lL1.out; omega) (by have := HAr.out; have := lL1.out; omega) (sorted_drop hsL s) (sorted_drop hsR e) (by rw [List.append_assoc]; exact O2) B2
                  clear O2 B2
                  go_wp2_with fail
                  refine (hcall ()).mono ?_
                  rintro ez W3 ⟨rfl, M2, hM2, O3, B3⟩
                  go_wp2_with fail
                  go_end0
                  exact ⟨rfl, M1 ++ M2, merged_all hsL hsR HX.out HY.out HM1.out hM2, by simpa using O3, B3⟩
                · have hE2 : R.drop e = [] := List.drop_of_length_le (by have := HAr.out; omega)
                  have hM2 : Merged (L.drop s) (R.drop e) (L.drop s) := by rw [hE2]; exact merged_left (sorted_drop hsL s)
                  rw [hE2] at O2
                  have HM2 : Hid _ := hM2
                  clear hM2 hE2
                  go_wp2_with fail
                  go_end0
                  exact ⟨rfl, M1 ++ L.drop s, merged_all hsL hsR HX.out HY.out HM1.out HM2.out, by simpa using O2, B2⟩
              · have hE2 : L.drop s = [] := List.drop_of_length_le (by have := HAr.out; omega)
                have hM2 : Merged (L.drop s) (R.drop e) (R.drop e) := by rw [hE2]; exact merged_right (sorted_drop hsR e)
                rw [hE2] at O2
                have HM2 : Hid _ := hM2
                clear hM2 hE2
                go_wp2_with fail
                go_end0
                exact ⟨rfl, M1 ++ R.drop e, merged_all hsL hsR HX.out HY.out HM1.out HM2.out, by simpa using O2, B2⟩
            · have hE1 : R.take e = [] := by rw [show e = 0 from by have := HAr.out; omega]; rfl
              have HM1 : Hid (Merged (L.take s) (R.take e) (L.take s)) := by show Merged _ _ _; rw [hE1]; exact merged_left (sorted_take hsL s)
              have O2 : Own W1 base (.slice (some ⟨g, 0, none⟩) N cap) (P ++ (L.take s ++ (L.drop s ++ (R.drop e ++ S)))) := by rw [hE1] at O1; simpa using O1
              have B2 := B1
              clear O1 B1 hE1
              obtain ⟨W2, hW2⟩ : ∃ W, W = W1 := ⟨_, rfl⟩
              rw [← hW2] at O2 B2 ⊢
              clear hW2
              obtain ⟨M1, hM1e⟩ : ∃ q, q = L.take s := ⟨_, rfl⟩
              rw [show P ++ (L.take s ++ (L.drop s ++ (R.drop e ++ S))) = P ++ (M1 ++ (L.drop s ++ (R.drop e ++ S))) from by rw [hM1e]] at O2
              have HM1' : Hid (Merged (L.take s) (R.take e) M1) := by show Merged _ _ _; rw [hM1e]; exact HM1.out
              clear HM1 hM1e
              have HM1 := HM1'
              clear HM1'
              by_cases h31' : mid < ee
              · by_cases h32 : ee < b
                · have h31 : mid < ee := h31'
                  have hcall := fun (_ : Unit) => IH (P ++ M1) (L.drop s) (R.drop e) S mid ee b W2 (by have := HAr.out; omega) (by have := HAr.out; have := lL1.out; omega) (by have := HAr.out; have := lL1.out; omega) (by have := HAr.out; have := HM1.out.1; have := lL1.out; have := HA.out; simp; omega) (by have := HAr.out; have := lL1.out; omega) (by have := HAr.out; have := lL1.out; omega) (sorted_drop hsL s) (sorted_drop hsR e) (by rw [List.append_assoc]; exact O2) B2
                  clear O2 B2
                  go_wp2_with fail
                  refine (hcall ()).mono ?_
                  rintro ez W3 ⟨rfl, M2, hM2, O3, B3⟩
                  go_wp2_with fail
                  go_end0
                  exact ⟨rfl, M1 ++ M2, merged_all hsL hsR HX.out HY.out HM1.out hM2, by simpa using O3, B3⟩
                · have hE2 : R.drop e = [] := List.drop_of_length_le (by have := HAr.out; omega)
                  have hM2 : Merged (L.drop s) (R.drop e) (L.drop s) := by rw [hE2]; exact merged_left (sorted_drop hsL s)
                  rw [hE2] at O2
                  have HM2 : Hid _ := hM2
                  clear hM2 hE2
                  go_wp2_with fail
                  go_end0
                  exact ⟨rfl, M1 ++ L.drop s, merged_all hsL hsR HX.out HY.out HM1.out HM2.out, by simpa using O2, B2⟩
              · have hE2 : L.drop s = [] := List.drop_of_length_le (by have := HAr.out; omega)
                have hM2 : Merged (L.drop s) (R.drop e) (R.drop e) := by rw [hE2]; exact merged_right (sorted_drop hsR e)
                rw [hE2] at O2
                have HM2 : Hid _ := hM2
                clear hM2 hE2
                go_wp2_with fail
                go_end0
                exact ⟨rfl, M1 ++ R.drop e, merged_all hsL hsR HX.out HY.out HM1.out HM2.out, by simpa using O2, B2⟩
          · have hE1 : L.take s = [] := by rw [show s = 0 from by have := HAr.out; omega]; rfl
            have HM1 : Hid (Merged (L.take s) (R.take e) (R.take e)) := by show Merged _ _ _; rw [hE1]; exact merged_right (sorted_take hsR e)
            have O2 : Own W1 base (.slice (some ⟨g, 0, none⟩) N cap) (P ++ (R.take e ++ (L.drop s ++ (R.drop e ++ S)))) := by rw [hE1] at O1; simpa using O1
            have B2 := B1
            clear O1 B1 hE1
            obtain ⟨W2, hW2⟩ : ∃ W, W = W1 := ⟨_, rfl⟩
            rw [← hW2] at O2 B2 ⊢
            clear hW2
            obtain ⟨M1, hM1e⟩ : ∃ q, q = R.take e := ⟨_, rfl⟩
            rw [show P ++ (R.take e ++ (L.drop s ++ (R.drop e ++ S))) = P ++ (M1 ++ (L.drop s ++ (R.drop e ++ S))) from by rw [hM1e]] at O2
            have HM1' : Hid (Merged (L.take s) (R.take e) M1) := by show Merged _ _ _; rw [hM1e]; exact HM1.out
            clear HM1 hM1e
            have HM1 := HM1'
            clear HM1'
            by_cases h31' : mid < ee
            · by_cases h32 : ee < b
              · have h31 : mid < ee := h31'
                have hcall := fun (_ : Unit) => IH (P ++ M1) (L.drop s) (R.drop e) S mid ee b W2 (by have := HAr.out; omega) (by have := HAr.out; have := lL1.out; omega) (by have := HAr.out; have := lL1.out; omega) (by have := HAr.out; have := HM1.out.1; have := lL1.out; have := HA.out; simp; omega) (by have := HAr.out; have := lL1.out; omega) (by have := HAr.out; have := lL1.out; omega) (sorted_drop hsL s) (sorted_drop hsR e) (by rw [List.append_assoc]; exact O2) B2
                clear O2 B2
                go_wp2_with fail
                refine (hcall ()).mono ?_
                rintro ez W3 ⟨rfl, M2, hM2, O3, B3⟩
                go_wp2_with fail
                go_end0
                exact ⟨rfl, M1 ++ M2, merged_all hsL hsR HX.out HY.out HM1.out hM2, by simpa using O3, B3⟩
              · have hE2 : R.drop e = [] := List.drop_of_length_le (by have := HAr.out; omega)
                have hM2 : Merged (L.drop s) (R.drop e) (L.drop s) := by rw [hE2]; exact merged_left (sorted_drop hsL s)
                rw [hE2] at O2
                have HM2 : Hid _ := hM2
                clear hM2 hE2
                go_wp2_with fail
                go_end0
                exact ⟨rfl, M1 ++ L.drop s, merged_all hsL hsR HX.out HY.out HM1.out HM2.out, by simpa using O2, B2⟩
            · have hE2 : L.drop s = [] := List.drop_of_length_le (by have := HAr.out; omega)
              have hM2 : Merged (L.drop s) (R.drop e) (R.drop e) := by rw [hE2]; exact merged_right (sorted_drop hsR e)
              rw [hE2] at O2
              have HM2 : Hid _ := hM2
              clear hM2 hE2
              go_wp2_with fail
              go_end0
              exact ⟨rfl, M1 ++ R.drop e, merged_all hsL hsR HX.out HY.out HM1.out HM2.out, by simpa using O2, B2⟩
end Go.Proofs.YtldlhpokkidmlaaGreatDoor
