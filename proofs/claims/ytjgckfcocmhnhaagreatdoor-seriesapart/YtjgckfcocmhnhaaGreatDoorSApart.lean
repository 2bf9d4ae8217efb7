/- SeriesApart: a sample goes to its own series alone; others tell what they told. -/
import Derived.Test.YtjgckfcocmhnhaaGreatDoorSNeq
import Derived.Test.YtjgckfcocmhnhaaGreatDoorSApI
namespace Go.Proofs.YtjgckfcocmhnhaaGreatDoor.Sr
open Go.RowKit Rn

theorem sm_eq (i : Nat) : sm i = ((i : Int), false, (((i + 1) * 1000000 : Nat) : Int)) := rfl
theorem of_succ {i : Nat} (hi : i < 80) (w : World) : Calls Tryz.prog 18 #[.int .i64 ((i : Int) + 1)] w fun e w' => e = .returned (.agg #[.bool false, .int .i64 (((i + 1) * 1000000 : Nat) : Int)]) ∧ Below w.heap.size w w' := by
  have h := kn_of ((i + 1 : Nat) : Int) _ (sm_of (i + 1) (by omega)) (by unfold R64; omega) w
  rwa [show ((i + 1 : Nat) : Int) = (i : Int) + 1 by omega] at h
theorem lN_put {ks : Nat → Nat} {i k : Nat} (h : ks i = k) : (fun j => if j = k then i + 1 else lN ks i j) = lN ks (i + 1) := by
  funext j
  show _ = if ks i = j then i + 1 else lN ks i j
  rw [h]
  by_cases e : j = k
  · rw [if_pos e, if_pos e.symm]
  · rw [if_neg e, if_neg (fun x => e x.symm)]
theorem A8.new (w : World) : A8 (w.alloc (.cells #[.int .i64 0, .int .i64 0, .int .i64 0, .int .i64 0, .int .i64 0, .int .i64 0, .int .i64 0, .int .i64 0] 58)) w.heap.size (fun _ => 0) := by
  refine ⟨Ty.new _ _ _, fun j hj => ?_, fun j hj => ?_⟩
  · rcases (by omega : j = 0 ∨ j = 1 ∨ j = 2 ∨ j = 3 ∨ j = 4 ∨ j = 5 ∨ j = 6 ∨ j = 7) with rfl | rfl | rfl | rfl | rfl | rfl | rfl | rfl <;> simp [go_sem]
  · simp [go_sem]
set_option maxHeartbeats 8000000 in
set_option maxRecDepth 100000 in
theorem apart_any (xa : Option Addr) (len cap : Nat) (u : List Nat) (w : World) (_hm : len ≤ maxLen) (hs : Ik w .u8 xa len u) (hl : ∀ x ∈ u, x ≤ 255) : Calls Tryz.prog 6 #[.slice xa len cap] w fun e w' => e = .returned (.bool true) ∧ Below w.heap.size w w' := by
  obtain ⟨ks, hks0⟩ : ∃ ks : Nat → Nat, ∀ i, ks i = u.getD i 0 % 8 := ⟨_, fun _ => rfl⟩
  go_enter Tryz.func6, Tryz.ntmps6
  go_wp2_with fail
  refine (known_any _).mono ?_
  rintro e w1 ⟨rfl, hb1⟩
  by_cases h80 : 80 < len
  · have hd : decide (80 < (len : Int)) = true := decide_eq_true (by omega)
    go_wp2
    all_goals
      go_ret
      exact ⟨rfl, hb1⟩
  · have hd : decide (80 < (len : Int)) = false := decide_eq_false (by omega)
    go_wp2_with fail
    refine (new_so w1).mono ?_
    rintro e w2 ⟨rfl, hso, hb2⟩
    have hB2 := Below.chain hb1 hb2
    have h0 : S4 w (w2.alloc (.cells #[.int .i64 0, .int .i64 0, .int .i64 0, .int .i64 0, .int .i64 0, .int .i64 0, .int .i64 0, .int .i64 0] 58)) w1.heap.size 0 (PL (fS ks 0)) w2.heap.size (lN ks 0) := by
      obtain ⟨q1, q2⟩ : w.heap.size ≤ w1.heap.size ∧ w1.heap.size < w2.heap.size := by
        obtain ⟨_, _, _, _, _, hx, _⟩ := id hso
        exact ⟨hb1.size, hx.t.lt⟩
      exact ⟨_, hso.later (bal (Below.refl _ _) (.cells #[.int .i64 0, .int .i64 0, .int .i64 0, .int .i64 0, .int .i64 0, .int .i64 0, .int .i64 0, .int .i64 0] 58)), A8.new w2, by omega, fun k hk => by rw [hk]; exact q1, Below.chain hB2 (bal (Below.refl _ _) (.cells #[.int .i64 0, .int .i64 0, .int .i64 0, .int .i64 0, .int .i64 0, .int .i64 0, .int .i64 0, .int .i64 0] 58)), by omega⟩
    clear hso hB2 hb1 hb2
    generalize w1.heap.size = sb at *
    go_wp2
    generalize w2.heap.size = ab at *
    generalize w2.alloc (.cells #[.int .i64 0, .int .i64 0, .int .i64 0, .int .i64 0, .int .i64 0, .int .i64 0, .int .i64 0, .int .i64 0] 58) = w3 at *
    go_loopw [5] (fun v wr => ∃ (i : Nat) (t : Int), i ≤ len ∧ v = .int .i64 i ∧ 0 ≤ t ∧ t ≤ i ∧ Hid (S4 w wr sb t (PL (fS ks i)) ab (lN ks i))) (fun v _ => len - (intOf v).toNat)
    case atStart => exact ⟨0, 0, by omega, rfl, by omega, by omega, h0⟩
    case round =>
      obtain ⟨i, t, hik, rfl, ht0, hti, hst⟩ := hrel
      clear h0
      by_cases hlt : i < len
      · have hd2 : decide ((i : Int) < (len : Int)) = true := decide_eq_true (by omega)
        obtain ⟨b, off, rfl, hcb⟩ := hs.read (by omega)
        have HCB : Hid _ := fun W hW => hcb W hW i hlt
        have hx255 := getD_le hl i
        have hks : ks i = u.getD i 0 % 8 := hks0 i
        have hk8' : ks i < 8 := by omega
        have HOF : Hid _ := fun W => of_succ (i := i) (by omega) W
        have HE : Hid _ := PL_e (fS ks i) (k := ks i) hk8' (ap_e ks i (ks i))
        have HY : Hid (addLL i (PL (fS ks i)) (mq (ks i)) (sm i) = PL (fS ks (i + 1))) := by
          show _ = _
          rw [PL_add (fS ks i) (k := ks i) hk8' (ap_e ks i (ks i)) (sm_nrm i (by omega)), fS_upd]
        rw [hks] at HE HY
        have HLP : Hid _ := lN_put hks
        have hHR : R64 (((i + 1) * 1000000 : Nat) : Int) := by unfold R64; omega
        rw [sm_eq] at HY
        generalize u.getD i 0 = x at *
        obtain ⟨k, hk, hk8⟩ : ∃ k : Nat, x % 8 = k ∧ k < 8 := ⟨x % 8, rfl, by omega⟩
        have hkI : (x : Int) % 8 = (k : Int) := by omega
        rw [hk] at HE HY HLP
        have hset := fun W => set_any [109] (mu k) W
        rw [ma3 k (by omega)] at hset
        clear hcb hks hk
        have hon : onw t (i : Int) = (i : Int) := by unfold onw; omega
        have hav : advL (i : Int) (PL (fS ks i)) = PL (fS ks i) := PL_adv (fS ks i) (fun j _ => ap_fg ks i j (by omega))
        have hadv := s4_adv hst.out (i : Int) hon hav
        clear hon hav hst
        go_wp2_with fail
        refine hadv.mono ?_
        rintro e w4 ⟨rfl, h4⟩
        clear hadv
        have hx4 := HCB.out w4 h4.b
        go_upto_region 12 with fail
        rw [hkI]
        clear hx4 hkI
        go_wp2_with fail
        refine (hset _).mono ?_
        rintro e w5 ⟨lb, rfl, hpq, hlb, hb5⟩
        have h5 := h4.later hb5
        clear h4 hb5 hset
        go_wp2_with fail
        refine (HOF.out _).mono ?_
        rintro e w6 ⟨rfl, hb6⟩
        have h6 := h5.later hb6
        have hpq6 := hpq.later hb6
        clear h5 hb6 hpq hlb
        have hadd := s4_add h6 hpq6 (mq_fit k) ((i : Int), false, (((i + 1) * 1000000 : Nat) : Int)) hHR HE.out HY.out
        clear hHR
        generalize (((i + 1) * 1000000 : Nat) : Int) = vi at *
        clear h6 hpq6
        go_wp2_with fail
        refine hadd.mono ?_
        rintro e w7 ⟨rfl, h7⟩
        clear hadd
        have c1 := h7.a.c k hk8
        have f1 := h7.a.f k hk8
        have h8 := s4_put h7 hk8 (i + 1)
        rw [HLP.out, show ((i + 1 : Nat) : Int) = (i : Int) + 1 by omega] at h8
        have HS8 : Hid _ := h8
        clear h8 h7
        go_wp2
        go_loopw [7] (fun v wr => ∃ j : Nat, j ≤ 8 ∧ v = .int .u8 j ∧ Hid (S4 w wr sb i (PL (fS ks (i + 1))) ab (lN ks (i + 1)))) (fun v _ => 8 - (intOf v).toNat)
        case atStart => exact ⟨0, by omega, rfl, HS8.out⟩
        case round =>
          obtain ⟨j, hj, rfl, hst⟩ := hrel
          clear c1 f1
          by_cases hj8 : j < 8
          · have hd3 : decide ((j : Int) < 8) = true := decide_eq_true (by omega)
            have hset := fun W => set_any [109] (mu j) W
            rw [ma3 j (by omega)] at hset
            obtain ⟨-, q2⟩ := ap_last ks i j (by omega) (i + 1) (by omega)
            have hsl := PL_smp (fS ks (i + 1)) hj8
            have hmle := lN_le ks (i + 1) j
            go_wp2_with fail
            refine (hset _).mono ?_
            rintro e w9 ⟨lb9, rfl, hpq, hlb, hb9⟩
            have h9 := S4.later hst.out hb9
            have hlast := fun A hA => s4_last (q := mq j) h9 hpq (l := A) hA
            rw [hsl] at hlast
            obtain ⟨m, hm⟩ : ∃ m : Nat, lN ks (i + 1) j = m := ⟨_, rfl⟩
            have HC : Hid (∀ W, S4 w W sb i (PL (fS ks (i + 1))) ab (lN ks (i + 1)) → W.cell? ⟨ab, j, none⟩ = some (.int .i64 (m : Int))) := fun W h => by rw [← hm]; exact h.a.c j hj8
            simp only [hm] at q2 hmle
            clear hset hst hb9 hlb hsl h9 hpq
            generalize addAll 10 i [] (fS ks (i + 1) j) = A at *
            clear hm
            by_cases h0 : 0 < m
            · obtain ⟨p, rfl⟩ : ∃ p : Nat, m = p + 1 := ⟨m - 1, by omega⟩
              have dm : decide (0 < (p : Int) + 1) = true := decide_eq_true (by omega)
              by_cases hin : i < p + 10
              · rw [if_pos (by omega)] at q2
                have e1 : (!A.isEmpty) = true := by rw [Bool.not_eq_true', ← Bool.not_eq_true, List.isEmpty_iff]; exact q2.1
                have hl2 := hlast A rfl
                rw [q2.2, e1, show p + 1 - 1 = p by omega, sm_eq] at hl2
                have dn : decide ((i : Int) - 10 < (p : Int)) = true := decide_eq_true (by omega)
                have HOP : Hid _ := fun W => of_succ (i := p) (by omega) W
                clear hlast q2 e1
                generalize (((p + 1) * 1000000 : Nat) : Int) = vp at *
                go_wp2_with fail
                refine hl2.mono ?_
                rintro e w10 ⟨rfl, h10, -⟩
                clear hl2
                go_upto_region 19 with fail
                have h11 := S4.later h10 (bal (Below.refl w10.heap.size w10) (.cells #[.int .i64 (p : Int), .bool false, .int .i64 vp] 35))
                have b1 : (w10.alloc (.cells #[.int .i64 (p : Int), .bool false, .int .i64 vp] 35)).cell? ⟨w10.heap.size, 1, none⟩ = some (.bool false) := by simp [go_sem]
                have b2 : (w10.alloc (.cells #[.int .i64 (p : Int), .bool false, .int .i64 vp] 35)).cell? ⟨w10.heap.size, 2, none⟩ = some (.int .i64 vp) := by simp [go_sem]
                have b3 := HC.out _ h11
                clear h10
                generalize w10.heap.size = xb at *
                generalize w10.alloc (.cells #[.int .i64 (p : Int), .bool false, .int .i64 vp] 35) = w11 at *
                have H11 : Hid _ := h11
                clear h11
                go_wp2_with fail
                have HSS : Hid (∀ W, Below w11.heap.size w11 W → (fun W : World => W.cell? ⟨xb, 1, none⟩ = some (.bool false) ∧ W.cell? ⟨xb, 2, none⟩ = some (.int .i64 vp) ∧ W.cell? ⟨ab, j, none⟩ = some (.int .i64 ((p + 1 : Nat) : Int))) W) := fun W hW => ⟨(hW.cell (p := ⟨xb, 1, none⟩) (World.block_lt_of_cell? _ _ b1)).trans b1, (hW.cell (p := ⟨xb, 2, none⟩) (World.block_lt_of_cell? _ _ b2)).trans b2, (hW.cell (p := ⟨ab, j, none⟩) (World.block_lt_of_cell? _ _ b3)).trans b3⟩
                clear b1 b2 b3
                have hS0 : (fun W : World => W.cell? ⟨xb, 1, none⟩ = some (.bool false) ∧ W.cell? ⟨xb, 2, none⟩ = some (.int .i64 vp) ∧ W.cell? ⟨ab, j, none⟩ = some (.int .i64 ((p + 1 : Nat) : Int))) _ := HSS.out _ (Below.refl w11.heap.size w11).drew
                refine wp_region_noPanic ?_
                refine wp_region_held_drew (S := fun W : World => W.cell? ⟨xb, 1, none⟩ = some (.bool false) ∧ W.cell? ⟨xb, 2, none⟩ = some (.int .i64 vp) ∧ W.cell? ⟨ab, j, none⟩ = some (.int .i64 ((p + 1 : Nat) : Int))) (by kernel_rfl) hS0 (fun _ => ?_)
                refine take_at 0 (some 71) (.bool true) rfl rfl (by kernel_rfl) (by kernel_rfl) (by kernel_rfl) (fun _ _ _ h => h) (by rfl) (fun W hSw => by obtain ⟨q0, q1, q2⟩ := hSw; go_simp) hS0 ?_
                simp only [Act.put, List.setIfInBounds_toArray, List.set_cons_zero, List.set_cons_succ]
                refine take_at 1 (some 72) (.bool true) rfl rfl (by kernel_rfl) (by kernel_rfl) (by kernel_rfl) (fun _ _ _ h => h) (by rfl) (fun W hSw => by obtain ⟨q0, q1, q2⟩ := hSw; go_simp) hS0 ?_
                simp only [Act.put, List.setIfInBounds_toArray, List.set_cons_zero, List.set_cons_succ]
                refine take_at 2 (some 73) (.bool false) rfl rfl (by kernel_rfl) (by kernel_rfl) (by kernel_rfl) (fun _ _ _ h => h) (by rfl) (fun W hSw => by obtain ⟨q0, q1, q2⟩ := hSw; go_simp) hS0 ?_
                simp only [Act.put, List.setIfInBounds_toArray, List.set_cons_zero, List.set_cons_succ]
                refine take_at 3 (some 74) (.bool false) rfl rfl (by kernel_rfl) (by kernel_rfl) (by kernel_rfl) (fun _ _ _ h => h) (by rfl) (fun W hSw => by obtain ⟨q0, q1, q2⟩ := hSw; go_simp) hS0 ?_
                simp only [Act.put, List.setIfInBounds_toArray, List.set_cons_zero, List.set_cons_succ]
                refine take_at 4 (some 75) (.bool true) rfl rfl (by kernel_rfl) (by kernel_rfl) (by kernel_rfl) (fun _ _ _ h => h) (by rfl) (fun W hSw => by obtain ⟨q0, q1, q2⟩ := hSw; go_simp) hS0 ?_
                simp only [Act.put, List.setIfInBounds_toArray, List.set_cons_zero, List.set_cons_succ]
                refine take_at 5 (some 76) (.bool true) rfl rfl (by kernel_rfl) (by kernel_rfl) (by kernel_rfl) (fun _ _ _ h => h) (by rfl) (fun W hSw => by obtain ⟨q0, q1, q2⟩ := hSw; go_simp) hS0 ?_
                simp only [Act.put, List.setIfInBounds_toArray, List.set_cons_zero, List.set_cons_succ]
                refine take_at 6 (some 77) (.pointer (some ⟨xb, 1, none⟩)) rfl rfl (by kernel_rfl) (by kernel_rfl) (by kernel_rfl) (fun _ _ _ h => h) (by rfl) (fun W hSw => by obtain ⟨q0, q1, q2⟩ := hSw; go_simp) hS0 ?_
                simp only [Act.put, List.setIfInBounds_toArray, List.set_cons_zero, List.set_cons_succ]
                refine take_at 7 (some 78) (.agg #[.bool false, .int .i64 vp]) rfl rfl (by kernel_rfl) (by kernel_rfl) (by kernel_rfl) (fun _ _ _ h => h) (by rfl) (fun W hSw => by obtain ⟨q0, q1, q2⟩ := hSw; go_simp) hS0 ?_
                simp only [Act.put, List.setIfInBounds_toArray, List.set_cons_zero, List.set_cons_succ]
                refine take_at 8 (some 79) (.int .u8 j) rfl rfl (by kernel_rfl) (by kernel_rfl) (by kernel_rfl) (fun _ _ _ h => h) (by rfl) (fun W hSw => by obtain ⟨q0, q1, q2⟩ := hSw; go_simp) hS0 ?_
                simp only [Act.put, List.setIfInBounds_toArray, List.set_cons_zero, List.set_cons_succ]
                refine take_at 9 (some 80) (.pointer (some ⟨ab, j, none⟩)) rfl rfl (by kernel_rfl) (by kernel_rfl) (by kernel_rfl) (fun _ _ _ h => h) (by rfl) (fun W hSw => by obtain ⟨q0, q1, q2⟩ := hSw; go_simp; intro hx9; omega) hS0 ?_
                simp only [Act.put, List.setIfInBounds_toArray, List.set_cons_zero, List.set_cons_succ]
                refine take_at 10 (some 81) (.int .i64 ((p : Int) + 1)) rfl rfl (by kernel_rfl) (by kernel_rfl) (by kernel_rfl) (fun _ _ _ h => h) (by rfl) (fun W hSw => by obtain ⟨q0, q1, q2⟩ := hSw; go_simp) hS0 ?_
                simp only [Act.put, List.setIfInBounds_toArray, List.set_cons_zero, List.set_cons_succ]
                refine wpAnyH_ready (rs := [11]) (by kernel_rfl) (by simp) ?_
                refine AllReadyH.cons rfl (fun K hK => ?_) AllReadyH.nil
                go_simp
                refine (HOP.out _).mono ?_
                rintro e w12 ⟨rfl, hb12⟩
                have hB12 := Below.chain (Below.refl w11.heap.size w11).drew hb12
                have hS1 := HSS.out _ hB12
                refine hK.out _ _ hS1 (fun _ => ?_)
                clear hK K
                refine take_at 12 (some 83) (.bool false) rfl rfl (by kernel_rfl) (by kernel_rfl) (by kernel_rfl) (fun _ _ _ h => h) (by rfl) (fun W hSw => by exact num_neq _ _ _ _ vp rfl rfl rfl W) hS1 ?_
                simp only [Act.put, List.setIfInBounds_toArray, List.set_cons_zero, List.set_cons_succ]
                refine take_at 13 (some 84) (.bool false) rfl rfl (by kernel_rfl) (by kernel_rfl) (by kernel_rfl) (fun _ _ _ h => h) (by rfl) (fun W hSw => by obtain ⟨q0, q1, q2⟩ := hSw; go_simp) hS1 ?_
                simp only [Act.put, List.setIfInBounds_toArray, List.set_cons_zero, List.set_cons_succ]
                refine take_at 14 (some 85) (.bool false) rfl rfl (by kernel_rfl) (by kernel_rfl) (by kernel_rfl) (fun _ _ _ h => h) (by rfl) (fun W hSw => by obtain ⟨q0, q1, q2⟩ := hSw; go_simp) hS1 ?_
                simp only [Act.put, List.setIfInBounds_toArray, List.set_cons_zero, List.set_cons_succ]
                refine wpAnyH_done (by kernel_rfl) ?_ _
                refine NoPanic.normal ?_
                go_wp2
                go_roundw
                case rel => exact ⟨j + 1, by omega, by go_num, S4.later H11.out hB12⟩
                case measure => simp [intOf]; omega
              · rw [if_neg (by omega)] at q2
                have dn : decide ((i : Int) - 10 < (p : Int)) = false := decide_eq_false (by omega)
                have hl2 : Calls Tryz.prog 25 _ w9 fun e w' => e = .returned (.tuple #[.agg #[.int .i64 0, .bool false, .int .i64 0], .bool false]) ∧ _ := hlast [] q2
                clear hlast
                go_wp2_with fail
                refine hl2.mono ?_
                rintro e w10 ⟨rfl, h10, -⟩
                clear hl2
                go_upto_region 19 with fail
                have h11 := S4.later h10 (bal (Below.refl w10.heap.size w10) (.cells #[.int .i64 0, .bool false, .int .i64 0] 35))
                have b1 : (w10.alloc (.cells #[.int .i64 0, .bool false, .int .i64 0] 35)).cell? ⟨w10.heap.size, 1, none⟩ = some (.bool false) := by simp [go_sem]
                have b2 : (w10.alloc (.cells #[.int .i64 0, .bool false, .int .i64 0] 35)).cell? ⟨w10.heap.size, 2, none⟩ = some (.int .i64 0) := by simp [go_sem]
                have b3 := HC.out _ h11
                clear h10
                generalize w10.heap.size = xb at *
                generalize w10.alloc (.cells #[.int .i64 0, .bool false, .int .i64 0] 35) = w11 at *
                have H11 : Hid _ := h11
                clear h11
                go_wp2_with fail
                clear b1 b2
                have hS0 : (fun _ : World => True) w11 := trivial
                refine wp_region_noPanic ?_
                refine wp_region_held_drew (S := fun _ : World => True) (by kernel_rfl) hS0 (fun _ => ?_)
                refine take_at 0 (some 71) (.bool false) rfl rfl (by kernel_rfl) (by kernel_rfl) (by kernel_rfl) (fun _ _ _ h => h) (by rfl) (fun W hSw => by go_simp) hS0 ?_
                simp only [Act.put, List.setIfInBounds_toArray, List.set_cons_zero, List.set_cons_succ]
                refine take_at 1 (some 72) (.bool false) rfl rfl (by kernel_rfl) (by kernel_rfl) (by kernel_rfl) (fun _ _ _ h => h) (by rfl) (fun W hSw => by go_simp) hS0 ?_
                simp only [Act.put, List.setIfInBounds_toArray, List.set_cons_zero, List.set_cons_succ]
                refine take_at 2 (some 73) (.bool false) rfl rfl (by kernel_rfl) (by kernel_rfl) (by kernel_rfl) (fun _ _ _ h => h) (by rfl) (fun W hSw => by go_simp) hS0 ?_
                simp only [Act.put, List.setIfInBounds_toArray, List.set_cons_zero, List.set_cons_succ]
                refine take_at 3 (some 74) (.bool false) rfl rfl (by kernel_rfl) (by kernel_rfl) (by kernel_rfl) (fun _ _ _ h => h) (by rfl) (fun W hSw => by go_simp) hS0 ?_
                simp only [Act.put, List.setIfInBounds_toArray, List.set_cons_zero, List.set_cons_succ]
                refine take_at 4 (some 75) (.bool false) rfl rfl (by kernel_rfl) (by kernel_rfl) (by kernel_rfl) (fun _ _ _ h => h) (by rfl) (fun W hSw => by go_simp) hS0 ?_
                simp only [Act.put, List.setIfInBounds_toArray, List.set_cons_zero, List.set_cons_succ]
                refine take_at 5 (some 76) (.bool false) rfl rfl (by kernel_rfl) (by kernel_rfl) (by kernel_rfl) (fun _ _ _ h => h) (by rfl) (fun W hSw => by go_simp) hS0 ?_
                simp only [Act.put, List.setIfInBounds_toArray, List.set_cons_zero, List.set_cons_succ]
                refine skip_at 6 (some 77) rfl rfl (by kernel_rfl) (by kernel_rfl) (by kernel_rfl) (fun _ _ _ h => h) (by rfl) hS0 ?_
                simp only [Act.put, List.setIfInBounds_toArray, List.set_cons_zero, List.set_cons_succ]
                refine skip_at 7 (some 78) rfl rfl (by kernel_rfl) (by kernel_rfl) (by kernel_rfl) (fun _ _ _ h => h) (by rfl) hS0 ?_
                simp only [Act.put, List.setIfInBounds_toArray, List.set_cons_zero, List.set_cons_succ]
                refine skip_at 8 (some 79) rfl rfl (by kernel_rfl) (by kernel_rfl) (by kernel_rfl) (fun _ _ _ h => h) (by rfl) hS0 ?_
                simp only [Act.put, List.setIfInBounds_toArray, List.set_cons_zero, List.set_cons_succ]
                refine skip_at 9 (some 80) rfl rfl (by kernel_rfl) (by kernel_rfl) (by kernel_rfl) (fun _ _ _ h => h) (by rfl) hS0 ?_
                simp only [Act.put, List.setIfInBounds_toArray, List.set_cons_zero, List.set_cons_succ]
                refine skip_at 10 (some 81) rfl rfl (by kernel_rfl) (by kernel_rfl) (by kernel_rfl) (fun _ _ _ h => h) (by rfl) hS0 ?_
                simp only [Act.put, List.setIfInBounds_toArray, List.set_cons_zero, List.set_cons_succ]
                refine skip_at 11 (some 82) rfl rfl (by kernel_rfl) (by kernel_rfl) (by kernel_rfl) (fun _ _ _ h => h) (by rfl) hS0 ?_
                simp only [Act.put, List.setIfInBounds_toArray, List.set_cons_zero, List.set_cons_succ]
                refine skip_at 12 (some 83) rfl rfl (by kernel_rfl) (by kernel_rfl) (by kernel_rfl) (fun _ _ _ h => h) (by rfl) hS0 ?_
                simp only [Act.put, List.setIfInBounds_toArray, List.set_cons_zero, List.set_cons_succ]
                refine take_at 13 (some 84) (.bool false) rfl rfl (by kernel_rfl) (by kernel_rfl) (by kernel_rfl) (fun _ _ _ h => h) (by rfl) (fun W hSw => by go_simp) hS0 ?_
                simp only [Act.put, List.setIfInBounds_toArray, List.set_cons_zero, List.set_cons_succ]
                refine take_at 14 (some 85) (.bool false) rfl rfl (by kernel_rfl) (by kernel_rfl) (by kernel_rfl) (fun _ _ _ h => h) (by rfl) (fun W hSw => by go_simp) hS0 ?_
                simp only [Act.put, List.setIfInBounds_toArray, List.set_cons_zero, List.set_cons_succ]
                refine wpAnyH_done (by kernel_rfl) ?_ _
                refine NoPanic.normal ?_
                go_wp2
                go_roundw
                case rel => exact ⟨j + 1, by omega, by go_num, S4.later H11.out (Below.refl _ _).drew⟩
                case measure => simp [intOf]; omega
            · obtain rfl : m = 0 := by omega
              rw [if_neg (by omega)] at q2
              have hl2 : Calls Tryz.prog 25 _ w9 fun e w' => e = .returned (.tuple #[.agg #[.int .i64 0, .bool false, .int .i64 0], .bool false]) ∧ _ := hlast [] q2
              clear hlast
              go_wp2_with fail
              refine hl2.mono ?_
              rintro e w10 ⟨rfl, h10, -⟩
              clear hl2
              go_upto_region 19 with fail
              have h11 := S4.later h10 (bal (Below.refl w10.heap.size w10) (.cells #[.int .i64 0, .bool false, .int .i64 0] 35))
              have b1 : (w10.alloc (.cells #[.int .i64 0, .bool false, .int .i64 0] 35)).cell? ⟨w10.heap.size, 1, none⟩ = some (.bool false) := by simp [go_sem]
              have b2 : (w10.alloc (.cells #[.int .i64 0, .bool false, .int .i64 0] 35)).cell? ⟨w10.heap.size, 2, none⟩ = some (.int .i64 0) := by simp [go_sem]
              have b3 := HC.out _ h11
              clear h10
              generalize w10.heap.size = xb at *
              generalize w10.alloc (.cells #[.int .i64 0, .bool false, .int .i64 0] 35) = w11 at *
              have H11 : Hid _ := h11
              clear h11
              go_wp2_with fail
              clear b1 b2
              have hS0 : (fun _ : World => True) w11 := trivial
              refine wp_region_noPanic ?_
              refine wp_region_held_drew (S := fun _ : World => True) (by kernel_rfl) hS0 (fun _ => ?_)
              refine take_at 0 (some 71) (.bool false) rfl rfl (by kernel_rfl) (by kernel_rfl) (by kernel_rfl) (fun _ _ _ h => h) (by rfl) (fun W hSw => by go_simp) hS0 ?_
              simp only [Act.put, List.setIfInBounds_toArray, List.set_cons_zero, List.set_cons_succ]
              refine take_at 1 (some 72) (.bool false) rfl rfl (by kernel_rfl) (by kernel_rfl) (by kernel_rfl) (fun _ _ _ h => h) (by rfl) (fun W hSw => by go_simp) hS0 ?_
              simp only [Act.put, List.setIfInBounds_toArray, List.set_cons_zero, List.set_cons_succ]
              refine take_at 2 (some 73) (.bool false) rfl rfl (by kernel_rfl) (by kernel_rfl) (by kernel_rfl) (fun _ _ _ h => h) (by rfl) (fun W hSw => by go_simp) hS0 ?_
              simp only [Act.put, List.setIfInBounds_toArray, List.set_cons_zero, List.set_cons_succ]
              refine take_at 3 (some 74) (.bool false) rfl rfl (by kernel_rfl) (by kernel_rfl) (by kernel_rfl) (fun _ _ _ h => h) (by rfl) (fun W hSw => by go_simp) hS0 ?_
              simp only [Act.put, List.setIfInBounds_toArray, List.set_cons_zero, List.set_cons_succ]
              refine take_at 4 (some 75) (.bool false) rfl rfl (by kernel_rfl) (by kernel_rfl) (by kernel_rfl) (fun _ _ _ h => h) (by rfl) (fun W hSw => by go_simp) hS0 ?_
              simp only [Act.put, List.setIfInBounds_toArray, List.set_cons_zero, List.set_cons_succ]
              refine take_at 5 (some 76) (.bool false) rfl rfl (by kernel_rfl) (by kernel_rfl) (by kernel_rfl) (fun _ _ _ h => h) (by rfl) (fun W hSw => by go_simp) hS0 ?_
              simp only [Act.put, List.setIfInBounds_toArray, List.set_cons_zero, List.set_cons_succ]
              refine skip_at 6 (some 77) rfl rfl (by kernel_rfl) (by kernel_rfl) (by kernel_rfl) (fun _ _ _ h => h) (by rfl) hS0 ?_
              simp only [Act.put, List.setIfInBounds_toArray, List.set_cons_zero, List.set_cons_succ]
              refine skip_at 7 (some 78) rfl rfl (by kernel_rfl) (by kernel_rfl) (by kernel_rfl) (fun _ _ _ h => h) (by rfl) hS0 ?_
              simp only [Act.put, List.setIfInBounds_toArray, List.set_cons_zero, List.set_cons_succ]
              refine skip_at 8 (some 79) rfl rfl (by kernel_rfl) (by kernel_rfl) (by kernel_rfl) (fun _ _ _ h => h) (by rfl) hS0 ?_
              simp only [Act.put, List.setIfInBounds_toArray, List.set_cons_zero, List.set_cons_succ]
              refine skip_at 9 (some 80) rfl rfl (by kernel_rfl) (by kernel_rfl) (by kernel_rfl) (fun _ _ _ h => h) (by rfl) hS0 ?_
              simp only [Act.put, List.setIfInBounds_toArray, List.set_cons_zero, List.set_cons_succ]
              refine skip_at 10 (some 81) rfl rfl (by kernel_rfl) (by kernel_rfl) (by kernel_rfl) (fun _ _ _ h => h) (by rfl) hS0 ?_
              simp only [Act.put, List.setIfInBounds_toArray, List.set_cons_zero, List.set_cons_succ]
              refine skip_at 11 (some 82) rfl rfl (by kernel_rfl) (by kernel_rfl) (by kernel_rfl) (fun _ _ _ h => h) (by rfl) hS0 ?_
              simp only [Act.put, List.setIfInBounds_toArray, List.set_cons_zero, List.set_cons_succ]
              refine skip_at 12 (some 83) rfl rfl (by kernel_rfl) (by kernel_rfl) (by kernel_rfl) (fun _ _ _ h => h) (by rfl) hS0 ?_
              simp only [Act.put, List.setIfInBounds_toArray, List.set_cons_zero, List.set_cons_succ]
              refine take_at 13 (some 84) (.bool false) rfl rfl (by kernel_rfl) (by kernel_rfl) (by kernel_rfl) (fun _ _ _ h => h) (by rfl) (fun W hSw => by go_simp) hS0 ?_
              simp only [Act.put, List.setIfInBounds_toArray, List.set_cons_zero, List.set_cons_succ]
              refine take_at 14 (some 85) (.bool false) rfl rfl (by kernel_rfl) (by kernel_rfl) (by kernel_rfl) (fun _ _ _ h => h) (by rfl) (fun W hSw => by go_simp) hS0 ?_
              simp only [Act.put, List.setIfInBounds_toArray, List.set_cons_zero, List.set_cons_succ]
              refine wpAnyH_done (by kernel_rfl) ?_ _
              refine NoPanic.normal ?_
              go_wp2
              go_roundw
              case rel => exact ⟨j + 1, by omega, by go_num, S4.later H11.out (Below.refl _ _).drew⟩
              case measure => simp [intOf]; omega
          · obtain rfl : j = 8 := by omega
            have hd3 : decide (((8 : Nat) : Int) < 8) = false := by decide
            go_wp2
            go_roundw
            case rel => exact ⟨i + 1, i, by omega, by go_num, by omega, by omega, hst⟩
            case measure => simp [intOf]; omega
      · have hd2 : decide ((i : Int) < (len : Int)) = false := decide_eq_false (by omega)
        have hbf := hst.out.b
        clear hst
        go_wp2
        all_goals
          go_ret
          exact ⟨rfl, hbf⟩
end Go.Proofs.YtjgckfcocmhnhaaGreatDoor.Sr
