/- RelabelSteps: rules one behind the other are as well one by one; nothing but sets comes out. -/
import Derived.Test.YtideieolgjhbiaaGreatDoorSliceR
namespace Go.Proofs.YtideieolgjhbiaaGreatDoor
open Go.RowKit

theorem ok_take {rs : List Rl} (h : rulesOk rs = true) (k : Nat) : rulesOk (rs.take k) = true := by
  unfold rulesOk at *
  rw [List.all_eq_true] at *
  exact fun r hr => h r (List.mem_of_mem_take hr)
theorem ok_drop {rs : List Rl} (h : rulesOk rs = true) (k : Nat) : rulesOk (rs.drop k) = true := by
  unfold rulesOk at *
  rw [List.all_eq_true] at *
  exact fun r hr => h r (List.mem_of_mem_drop hr)
theorem fit_take {rs : List Rl} (h : FitRs rs) (k : Nat) : FitRs (rs.take k) := fun r hr => h r (List.mem_of_mem_take hr)
theorem fit_drop {rs : List Rl} (h : FitRs rs) (k : Nat) : FitRs (rs.drop k) := fun r hr => h r (List.mem_of_mem_drop hr)
theorem apply_no {l : List Pr} {rs : List Rl} (h : (fApply l rs).2.1 = false) : (fApply l rs).1 = [] := by
  unfold fApply at *
  split
  · rename_i h1
    rw [if_pos h1] at h
    split
    · rename_i h2
      rw [if_pos h2] at h
      exact apAll_no h
    · rfl
  · rfl
theorem apply_yes {l : List Pr} {rs : List Rl} (h : (fApply l rs).2.1 = true) : fIs l = true ∧ (fApply l rs).2.2 = 0 ∧ fIs (fApply l rs).1 = true := by
  unfold fApply at *
  split at h
  · rename_i h1
    rw [if_pos h1]
    split at h
    · rename_i h2
      rw [if_pos h2]
      exact ⟨h2, apAll_e h, apAll_is h2 h⟩
    · cases h
  · cases h
/-- What didn't come through the first rules is what comes of all. -/
theorem steps_stop {l : List Pr} {rs : List Rl} (h : rulesOk rs = true) (k : Nat) (hb : (fApply l (rs.take k)).2.1 = false) : fApply l rs = fApply l (rs.take k) := by
  unfold fApply at *
  rw [if_pos h, if_pos (ok_take h k)] at *
  by_cases hl : fIs l = true
  · rw [if_pos hl] at hb
    rw [if_pos hl, if_pos hl]
    have e := apAll_append l (rs.take k) (rs.drop k)
    rw [List.take_append_drop, if_neg (by rw [hb]; simp)] at e
    exact e
  · rw [if_neg hl, if_neg hl]
/-- What came through them goes on. -/
theorem steps_on {l : List Pr} {rs : List Rl} (h : rulesOk rs = true) (k : Nat) (hb : (fApply l (rs.take k)).2.1 = true) : fApply (fApply l (rs.take k)).1 (rs.drop k) = fApply l rs := by
  obtain ⟨hl, _, hi⟩ := apply_yes hb
  have e1 : fApply l (rs.take k) = apAll l (rs.take k) := by unfold fApply; rw [if_pos (ok_take h k), if_pos hl]
  have e2 : fApply l rs = apAll l rs := by unfold fApply; rw [if_pos h, if_pos hl]
  rw [e1] at hb hi
  rw [e1, e2]
  have e := apAll_append l (rs.take k) (rs.drop k)
  rw [List.take_append_drop, if_pos hb] at e
  unfold fApply
  rw [if_pos (ok_drop h k), if_pos hi, e]
theorem apply_short {l : List Pr} {rs : List Rl} : (fApply l rs).1.length ≤ 8 := by
  cases h : (fApply l rs).2.1 with
  | true => exact (is_short (apply_yes h).2.2).1
  | false => rw [apply_no h]; simp

set_option maxRecDepth 200000 in
set_option maxHeartbeats 4000000 in
theorem steps_any (xa : Option Addr) (n c : Nat) (l : List Pr) (ya : Option Addr) (m d : Nat) (rs : List Rl) (N : Nat) (w : World) (hn : n ≤ 9223372036854775807) (hmm : m ≤ 9223372036854775807) (hN : N ≤ 255) (hf : Fit l) (hfr : FitRs rs) (hx : Ps w xa n l) (hy : Rs w ya m rs) (hcd : m ≤ d) (hm : Mx w) :
    Calls Tryz.prog 4 #[.slice xa n c, .slice ya m d, .int .u8 N] w fun e w' => e = .returned (.bool true) ∧ Below w.heap.size w w' := by
  have hkn := known_any w hm
  have hfw := fun W (hW : Below w.heap.size w W) => few_any xa n c l ya m d rs W hn hmm hfr hx.1 (hy.later hW)
  have HW : Hid (fewB l rs = true → n ≤ 12 ∧ m ≤ 12) := fun h => by
    unfold fewB at h
    rw [Bool.and_eq_true, Bool.and_eq_true, decide_eq_true_iff, decide_eq_true_iff] at h
    rw [← hx.1, ← hy.1]; exact h.2
  have hapN := fun W (hW : Below w.heap.size w W) (h12 : n ≤ 12) => apply_any xa n c l ya m d rs W (by omega) hmm hf hfr (hx.later hW) (hy.later hW) (hm.later hW)
  have hisr := fun j W => isR_any (rs.getD j rl0) W (hfr.at j)
  cases hfe : fewB l rs with
  | false =>
    rw [hfe] at hfw
    clear hfe HW hapN hisr
    go_enter Tryz.func4, Tryz.ntmps4
    go_wp2_with fail
    refine hkn.mono ?_
    rintro e w1 ⟨rfl, hb1⟩
    go_wp2_with fail
    refine (hfw _ hb1).mono ?_
    rintro e w2 ⟨rfl, rfl⟩
    go_wp2_with fail
    go_ret
    exact ⟨rfl, hb1⟩
  | true =>
  rw [hfe] at hfw
  obtain ⟨h12, hm12⟩ := HW.out hfe
  clear hfe HW
  have HNo : Hid _ := @ok_no rs
  have HOk : Hid _ := @ok_step rs
  have HAl : Hid _ := @ok_all rs
  have HL : Hid (rs.length = m) := hy.1
  go_enter Tryz.func4, Tryz.ntmps4
  go_wp2_with fail
  refine hkn.mono ?_
  rintro e w1 ⟨rfl, hb1⟩
  go_wp2_with fail
  refine (hfw _ hb1).mono ?_
  rintro e w2 ⟨rfl, rfl⟩
  clear hfw hkn
  go_wp2_with fail
  go_loopw [7] (fun i W => ∃ j : Nat, j ≤ m ∧ i = .int .i64 j ∧ Hid (rulesOk (rs.take j) = true) ∧ Below w.heap.size w W) (fun i _ => m - (intOf i).toNat)
  case atStart => exact ⟨0, by omega, rfl, rfl, hb1⟩
  case round =>
    obtain ⟨j, hj, rfl, ho, hb⟩ := hrel
    by_cases hlt : j < m
    · have hyr := hy.later hb
      obtain ⟨_, hcell⟩ := hyr
      obtain ⟨b, off, rfl, hc⟩ := hcell (by omega)
      obtain ⟨k0, k1, k2, k3, k4, k5⟩ := hc j hlt
      have hlt' : j < rs.length := by rw [HL.out]; exact hlt
      have HN : Hid _ := HNo.out hlt'
      have HO : Hid _ := HOk.out hlt' ho.out
      have hi := hisr j
      clear hc hcell hlt' HNo HOk HAl hisr ho
      generalize rs.getD j rl0 = r at *
      cases hr : fRule r with
      | true =>
        have HR : Hid _ := HO.out hr
        rw [hr] at hi
        clear HN HO hr hapN
        obtain ⟨act, ⟨nn, kk, tt⟩, tgt, txt⟩ := r
        dsimp only at *
        go_wp2_with fail
        refine (hi _).mono ?_
        rintro e w3 ⟨rfl, hb3⟩
        go_wp2_with fail
        go_roundw
        case rel => exact ⟨j + 1, by omega, by go_num, HR, Below.chain hb hb3⟩
        case measure => simp [intOf]; omega
      | false =>
        have HR : Hid (fApply l rs = ([], false, 12)) := by show _ = _; unfold fApply; rw [HN.out hr, if_neg (by simp)]
        rw [hr] at hi
        rw [HR.out] at hapN
        clear HN HO hr HR
        obtain ⟨act, ⟨nn, kk, tt⟩, tgt, txt⟩ := r
        dsimp only at *
        go_wp2_with fail
        refine (hi _).mono ?_
        rintro e w3 ⟨rfl, hb3⟩
        go_wp2_with fail
        refine (hapN _ (Below.chain hb hb3) h12).mono ?_
        rintro e w4 ⟨ao4, N4, cap4, rfl, _, hb4⟩
        go_wp2_with fail
        go_ret
        exact ⟨rfl, Below.chain (Below.chain hb hb3) hb4⟩
    · have HOA : Hid (rulesOk rs = true) := HAl.out (by rw [HL.out]; omega) ho.out
      clear HNo HOk HAl hisr ho
      obtain ⟨K, hK⟩ : ∃ K, N % (m + 1) = K := ⟨_, rfl⟩
      have hKm : K ≤ m := by have := Nat.mod_lt N (show 0 < m + 1 by omega); omega
      have hK1 : (N : Int) % ((m : Int) + 1) = (K : Int) := by rw [← hK]; simp
      have hK2 : Int.tmod (N : Int) ((m : Int) + 1) = (K : Int) := by rw [Int.tmod_eq_emod_of_nonneg (by omega)]; exact hK1
      have hne : (((m : Int) + 1) == 0) = false := by rw [beq_eq_false_iff_ne]; omega
      have hcf := fun W => cut_front ya m d K (by omega) W
      have hcb := fun W => cut_back ya m d K hKm W
      have hapB := fun W (hW : Below w.heap.size w W) => apply_any xa n c l (cutA ya d 0) K d (rs.take K) W (by omega) (by omega) hf (fit_take hfr K) (hx.later hW) ((hy.head hcd K hKm).later hW) (hm.later hW)
      have hapC := fun W (hW : Below w.heap.size w W) ao M cap (hp : Ps W ao M (fApply l (rs.take K)).1) => apply_any ao M cap (fApply l (rs.take K)).1 (cutA ya d K) (m - K) (d - K) (rs.drop K) W (by rw [← hp.1]; exact Nat.le_trans apply_short (by omega)) (by omega) (fun p hp => by
        cases hb : (fApply l (rs.take K)).2.1 with
        | true => exact is_fit (apply_yes hb).2.2 p hp
        | false => rw [apply_no hb] at hp; cases hp) (fit_drop hfr K) hp ((hy.tail hcd K hKm).later hW) (hm.later hW)
      have hap := hapN wr hb h12
      have HY : Hid _ := @apply_yes l (rs.take K)
      have HYA : Hid _ := @apply_yes l rs
      have HSt : Hid _ := steps_stop (l := l) HOA.out K
      have HOn : Hid _ := steps_on (l := l) HOA.out K
      have HNoA : Hid _ := @apply_no l rs
      have hshA : (fApply l rs).1.length ≤ 8 := apply_short
      clear hK hapN
      generalize fApply l rs = A at *
      generalize fApply l (rs.take K) = B at *
      obtain ⟨a1, ak, ae⟩ := A
      obtain ⟨b1, bk, be⟩ := B
      dsimp only at *
      cases bk with
      | false =>
        have hAB := HSt.out rfl
        simp only [Prod.mk.injEq] at hAB
        obtain ⟨rfl, rfl, rfl⟩ := hAB
        have ha0 : a1 = [] := HNoA.out rfl
        subst ha0
        clear HY HYA HSt HOn HNoA hapC hcb
        go_wp2_with fail
        refine hap.mono ?_
        rintro e w5 ⟨ao5, N5, cap5, rfl, hps5, hb5⟩
        obtain rfl : N5 = 0 := hps5.1.symm
        go_wp2_with fail
        refine (hapB _ (Below.chain hb hb5)).mono ?_
        rintro e w6 ⟨ao6, N6, cap6, rfl, hps6, hb6⟩
        have B6 := Below.chain (Below.chain hb hb5) hb6
        by_cases he : ae = 0
        · have t1 : (ae != 0) = false := by rw [bne_eq_false_iff_eq]; exact he
          have t2 : (ae == 0) = true := by rw [beq_iff_eq]; exact he
          clear he
          go_wp2_with fail
          go_ret
          exact ⟨by simp, B6⟩
        · have t1 : (ae != 0) = true := by rw [bne_iff_ne]; exact he
          have t2 : (ae == 0) = false := by rw [beq_eq_false_iff_ne]; exact he
          clear he
          go_wp2_with fail
          go_ret
          exact ⟨by simp, B6⟩
      | true =>
        obtain ⟨_, hbe, hbi⟩ := HY.out rfl
        subst hbe
        have HC : Hid _ := HOn.out rfl
        have hapC' := fun W hW ao M cap hp => by
          have h := hapC W hW ao M cap hp
          rw [HC.out] at h
          exact h
        have hsm := fun W ao M cap ao' M' cap' (h1 : Ps W ao M a1) (h2 : Ps W ao' M' a1) => same_any ao M cap a1 ao' M' cap' a1 W (by rw [← h1.1]; omega) (by rw [← h2.1]; omega) h1 h2
        rw [show sameB a1 a1 = true from decide_eq_true rfl] at hsm
        have hisA := fun (hk : ak = true) W ao M cap (h1 : Ps W ao M a1) => is_any ao M cap a1 W (by rw [← h1.1]; omega) (is_fit (HYA.out hk).2.2) h1
        have hisA' := fun (hk : ak = true) W ao M cap h1 => by
          have h := hisA hk W ao M cap h1
          rw [(HYA.out hk).2.2] at h
          exact h
        clear HY HYA HSt HOn HNoA hapC HC hisA hbi hshA
        go_wp2_with fail
        refine hap.mono ?_
        rintro e w5 ⟨ao5, N5, cap5, rfl, hps5, hb5⟩
        have B5 := Below.chain hb hb5
        go_wp2_with fail
        refine (hapB _ B5).mono ?_
        rintro e w6 ⟨ao6, N6, cap6, rfl, hps6, hb6⟩
        have B6 := Below.chain B5 hb6
        have hps5b := hps5.later hb6
        clear hap hapB hb5 hb6 hps5
        go_wp2_with fail
        refine (hapC' _ B6 ao6 N6 cap6 hps6).mono ?_
        rintro e w7 ⟨ao7, N7, cap7, rfl, hps7, hb7⟩
        have B7 := Below.chain B6 hb7
        have hps5c := hps5b.later hb7
        clear hapC' hps6 hps5b hb7
        cases ak with
        | true =>
          go_wp2_with fail
          refine (hsm w7 ao5 N5 cap5 ao7 N7 cap7 hps5c hps7).mono ?_
          rintro e w8 ⟨rfl, k8, rfl⟩
          go_wp2_with fail
          refine (hisA' (by trivial) _ ao5 N5 cap5 (hps5c.later (below_drewN (Below.refl _ _) k8))).mono ?_
          rintro e w9 ⟨rfl, hb9⟩
          go_wp2_with fail
          go_ret
          exact ⟨by simp, Below.chain (below_drewN B7 k8) hb9⟩
        | false =>
          go_wp2_with fail
          refine (hsm w7 ao5 N5 cap5 ao7 N7 cap7 hps5c hps7).mono ?_
          rintro e w8 ⟨rfl, k8, rfl⟩
          go_wp2_with fail
          go_ret
          exact ⟨by simp, below_drewN B7 k8⟩
end Go.Proofs.YtideieolgjhbiaaGreatDoor
