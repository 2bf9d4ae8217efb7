/- CounterSlides, walked. -/
import Derived.Test.YthcakiibkocheaaCSlP
import Derived.Test.YthcakiibkocheaaCKnown
import Derived.Test.YthcakiibkocheaaMul
namespace Go.Proofs.Ythcakiibkocheaa
open Go.RowKit

set_option maxRecDepth 100000 in
set_option maxHeartbeats 16000000 in
theorem slides_any (N M B : Nat) (w : World) (hN : N ≤ 255) (hM : M ≤ 255) (hB : B ≤ 255) :
    Calls Try.prog 6 #[.int .u8 N, .int .u8 M, .int .u8 B] w fun e w' => e = .returned (.bool true) ∧ Below w.heap.size w w' := by
  go_enter Try.func6, Try.ntmps6
  go_wp2_with fail
  refine (known_any _).mono ?_
  rintro e w1 ⟨rfl, hb1⟩
  go_wp2_with fail
  obtain ⟨k, hk⟩ : ∃ k : Nat, (k : Int) = (N : Int) % 80 + 2 := ⟨N % 80 + 2, by omega⟩
  have k1 : 2 ≤ k ∧ k ≤ 81 := by omega
  rw [← hk]
  have hck : clamp (k : Int) = k := by unfold clamp; rw [if_neg (by omega), if_neg (by omega)]
  refine (new_st (k : Int) _).mono ?_
  rw [hck]
  rintro e w2 ⟨rfl, hs2, hb2⟩
  have hbb : w.heap.size ≤ w1.heap.size := hb1.size
  have hb2' := Below.chain hb1 hb2
  generalize w1.heap.size = b at *
  clear hck hb1 hb2 hN
  go_wp2_with fail
  rw [← hk]
  clear hk
  go_loopw [9] (fun t wr => ∃ i : Nat, Hid (i ≤ M + 1) ∧ t = .int .i64 i ∧ St wr b (bl (vb B) k i) k ((i - 1 : Nat) : Int) ∧ Below w.heap.size w wr) (fun t _ => M + 1 - (intOf t).toNat)
  case atStart => exact ⟨0, by show 0 ≤ M + 1; omega, rfl, hs2, hb2'⟩
  case round =>
    obtain ⟨i, HI, rfl, hx, hb⟩ := hrel
    by_cases hlt : i ≤ M
    · have hd : decide ((i : Int) ≤ (M : Int)) = true := decide_eq_true (by omega)
      have hd' : decide (i ≤ M) = true := decide_eq_true hlt
      have ho : onw ((i - 1 : Nat) : Int) i = i := onw_up (by omega) (by omega)
      have adx := adv_st b _ _ _ (i : Int) wr hx
      rw [ho, bl_adv _ k i (by omega)] at adx
      have hE := bl_adE (vb B) k i (by omega)
      have hL := bl_adL (vb B) k i (by omega)
      obtain ⟨z, hz⟩ : ∃ z, i * B = z := ⟨_, rfl⟩
      have hz1 : z ≤ 65025 := by rw [← hz]; exact (Nat.mul_le_mul (show i ≤ 255 by omega) hB : i * B ≤ 255 * 255)
      have hvz : vb B i = (z : Int) := by unfold vb; rw [hz]
      rw [hvz] at hL
      obtain ⟨m, hm⟩ : ∃ m, min i (k - 1) = m := ⟨_, rfl⟩
      obtain ⟨y, hy⟩ : ∃ y, m * B = y := ⟨_, rfl⟩
      have hy1 : y ≤ 65025 := by rw [← hy]; exact (Nat.mul_le_mul (show m ≤ 255 by omega) hB : m * B ≤ 255 * 255)
      obtain ⟨SL1, SL2, SL3⟩ := sl_all B k i m y hB (by omega) k1 hm hy
      obtain ⟨LN, hLN⟩ : ∃ L, bl (vb B) k (i + 1) = L := ⟨_, rfl⟩
      have HLN : Hid (bl (vb B) k (i + 1) = LN) := hLN
      rw [hLN] at SL1 SL2 SL3 hL
      have HS1 : Hid _ := SL1
      have HS2 : Hid _ := SL2
      have HS3 : Hid _ := SL3
      have hmm : min (i : Int) ((k : Int) - 1) = (m : Int) := by omega
      have hmi : m = 0 ↔ i = 0 := by omega
      have hmb : (m : Int) * (B : Int) = (y : Int) := by rw [← hy]; simp
      have hzb : (i : Int) * (B : Int) = (z : Int) := by rw [← hz]; simp
      have hOz := fun W => kn_of (z : Int) ((z : Int) * 1000000) (fOf_nat z (by omega)) (r64_nat z (by omega)) W
      have hOy := fun W => kn_of (y : Int) ((y : Int) * 1000000) (fOf_nat y (by omega)) (r64_nat y (by omega)) W
      have hOk := fun W => kn_of (k : Int) ((k : Int) * 1000000) (fOf_nat k (by omega)) (r64_nat k (by omega)) W
      have hrz : R64 ((z : Int) * 1000000) := by unfold R64; omega
      have hDv := fun W => div_vals (some ((y : Int) * 1000000)) (some ((k : Int) * 1000000)) W (by unfold V; show -9223372036854775807 ≤ (y : Int) * 1000000 ∧ (y : Int) * 1000000 ≤ 9223372036854775807; omega) (by unfold V; show -9223372036854775807 ≤ (k : Int) * 1000000 ∧ (k : Int) * 1000000 ≤ 9223372036854775807; omega)
      have hRt : Hid (rtP LN k = fDiv (some ((y : Int) * 1000000)) (some ((k : Int) * 1000000))) := by
        show fDiv (incP _) (fOf k) = _
        rw [SL2, fOf_nat k (by omega)]
      have hqr : R64 (nn (fDiv (some ((y : Int) * 1000000)) (some ((k : Int) * 1000000)))) := V.r64 (V.div _ _)
      have hk9 : (k : Int) - 1 ≤ 1000 := by omega
      have HMx : Hid (M + 1 - (i + 1) < M + 1 - i) := by show _ < _; omega
      have HI1 : Hid (i + 1 ≤ M + 1) := by show _ ≤ _; omega
      have EZ : Hid (wrap64 ((i : Int) * (B : Int)) = (z : Int)) := by show _ = _; rw [hzb]; exact wNat z (by omega)
      have EY : Hid (wrap64 ((m : Int) * (B : Int)) = (y : Int)) := by show _ = _; rw [hmb]; exact wNat y (by omega)
      have EB : Hid (wrap64 (B : Int) = (B : Int)) := wNat B (by omega)
      have EK : Hid (wrap64 ((k : Int) - 1) = (k : Int) - 1) := wf64 (by omega) (by omega)
      have HM0 : Hid (min (i : Int) ((k : Int) - 1) = (m : Int)) := hmm
      have hi0 : i = 0 ∨ 0 < i := by omega
      have hl2 : m = 0 ↔ i = 0 := hmi
      clear hLN SL1 SL2 SL3 hm hy hz hz1 hy1 ho hvz hmm hmb hzb hmi hk9 k1
      obtain ⟨qo, hqo⟩ : ∃ q, ov (fDiv (some ((y : Int) * 1000000)) (some ((k : Int) * 1000000))) = q := ⟨_, rfl⟩
      obtain ⟨qn, hqn⟩ : ∃ q, nn (fDiv (some ((y : Int) * 1000000)) (some ((k : Int) * 1000000))) = q := ⟨_, rfl⟩
      rw [hqo, hqn] at hDv
      have HQ : Hid (ov (rtP LN k) = qo ∧ nn (rtP LN k) = qn) := by rw [hRt.out]; exact ⟨hqo, hqn⟩
      clear hqo hqn hRt hqr
      generalize sr (vb B) (i - min i (k - 1)) (min i (k - 1)) = LS at *
      generalize bl (vb B) k i = LO at *
      have HZ : Hid (1 ≤ i → i - 1 + 1 = i) := fun h => by omega
      have HNow : Hid (((i + 1 - 1 : Nat) : Int) = (i : Int)) := by show _ = _; omega
      go_wp2_with fail
      refine adx.mono ?_
      rintro e w4 ⟨rfl, hx4, hg4⟩
      have hb4 := grown_above hb hg4 hb.size hbb
      clear adx hg4 hb hx
      have ez := EZ.out
      have eb := EB.out
      go_wp2_with fail
      refine (hOz _).mono ?_
      rintro e w6 ⟨rfl, hb6⟩
      have hx6 := hx4.later hb6
      have hb6' := Below.chain hb4 hb6
      clear hb4 hb6 hx4 ez
      have ax := add_st b _ _ _ ((i : Int), false, (z : Int) * 1000000) w6 hx6 hrz
      rw [hL, show ((i : Int), false, (z : Int) * 1000000).1 = (i : Int) from rfl, hE] at ax
      go_wp2_with fail
      refine ax.mono ?_
      rintro e w7 ⟨rfl, hx7, hg7⟩
      have hb7 := grown_above hb6' hg7 hb6'.size hbb
      clear ax hg7 hb6' hx6 hE hL
      have ek := EK.out
      have ey := EY.out
      have em := HM0.out
      have gx := inc_st b _ _ _ w7 hx7
      rcases hi0 with h0 | h0
      · have hT : incT LN = .tuple #[.agg #[.bool false, .int .i64 0], .bool false] := by unfold incT; rw [HS1.out, if_pos (by omega)]
        have hR : rtT LN k = .tuple #[.agg #[.bool false, .int .i64 0], .bool false] := by unfold rtT; rw [HS1.out, if_pos (by omega)]
        have hg0 : decide ((0 : Int) < (i : Int)) = false := decide_eq_false (by omega)
        have hg0' : decide (0 < i) = false := decide_eq_false (by omega)
        rw [hT] at gx
        clear h0 hl2 hT
        go_wp2_with fail
        refine gx.mono ?_
        rintro e w8 ⟨rfl, hb8⟩
        have hx8 := (hx7.later hb8).later (bal (Below.refl _ w8) (.cells #[.bool false, .int .i64 0] 28))
        have hu8 := Box.new w8 false 0
        have hb8' := bal (Below.chain hb7 hb8) (.cells #[.bool false, .int .i64 0] 28)
        clear hx7 hb7 hb8 gx ek ey em eb
        have rx := rate_st b _ _ _ _ hx8
        rw [hR] at rx
        clear hR
        go_wp2_with fail
        generalize w8.heap.size = B1 at *
        generalize w8.alloc (.cells #[.bool false, .int .i64 0] 28) = w9 at *
        refine rx.mono ?_
        rintro e w10 ⟨rfl, hb10⟩
        have hx10 := (hx8.later hb10).later (bal (Below.refl _ w10) (.cells #[.bool false, .int .i64 0] 28))
        have hu10 := (hu8.later hb10).later (bal (Below.refl _ w10) (.cells #[.bool false, .int .i64 0] 28))
        have hr10 := Box.new w10 false 0
        have hb10' := bal (Below.chain hb8' hb10) (.cells #[.bool false, .int .i64 0] 28)
        clear hx8 hu8 hb8' hb10 rx
        go_wp2_with fail
        generalize w10.heap.size = B2 at *
        generalize w10.alloc (.cells #[.bool false, .int .i64 0] 28) = w11 at *
        have hxz : St w11.drew b LN k (i : Int) := hx10.later (Below.refl _ _).drew
        have huz : Box w11.drew B1 false 0 := hu10.later (Below.refl _ _).drew
        have hrz' : Box w11.drew B2 false 0 := hr10.later (Below.refl _ _).drew
        have hbz : Below w.heap.size w w11.drew := hb10'.trans (Below.refl _ _).drew
        clear hx10 hu10 hr10 hb10'
        have hS0 : (fun W : World => Box W B1 false 0 ∧ Box W B2 false 0) _ := ⟨huz, hrz'⟩
        refine wp_region_noPanic ?_
        refine wp_region_held_drew (S := fun W : World => Box W B1 false 0 ∧ Box W B2 false 0) (by kernel_rfl) hS0 (fun _ => ?_)
        refine take_at 0 (some 59) (.bool false) rfl rfl (by kernel_rfl) (by kernel_rfl) (by kernel_rfl) (fun _ _ _ h => h) (by rfl) (fun W hSw => by obtain ⟨⟨q1, q2, _, _⟩, ⟨q3, q4, _, _⟩⟩ := hSw; go_simp) hS0 ?_
        simp only [Act.put, List.setIfInBounds_toArray, List.set_cons_zero, List.set_cons_succ]
        refine take_at 1 (some 60) (.int .i64 i) rfl rfl (by kernel_rfl) (by kernel_rfl) (by kernel_rfl) (fun _ _ _ h => h) (by rfl) (fun W hSw => by obtain ⟨⟨q1, q2, _, _⟩, ⟨q3, q4, _, _⟩⟩ := hSw; go_simp) hS0 ?_
        simp only [Act.put, List.setIfInBounds_toArray, List.set_cons_zero, List.set_cons_succ]
        refine take_at 2 (some 61) (.bool false) rfl rfl (by kernel_rfl) (by kernel_rfl) (by kernel_rfl) (fun _ _ _ h => h) (by rfl) (fun W hSw => by obtain ⟨⟨q1, q2, _, _⟩, ⟨q3, q4, _, _⟩⟩ := hSw; go_simp) hS0 ?_
        simp only [Act.put, List.setIfInBounds_toArray, List.set_cons_zero, List.set_cons_succ]
        refine take_at 3 (some 62) (.bool false) rfl rfl (by kernel_rfl) (by kernel_rfl) (by kernel_rfl) (fun _ _ _ h => h) (by rfl) (fun W hSw => by obtain ⟨⟨q1, q2, _, _⟩, ⟨q3, q4, _, _⟩⟩ := hSw; go_simp) hS0 ?_
        simp only [Act.put, List.setIfInBounds_toArray, List.set_cons_zero, List.set_cons_succ]
        refine take_at 4 (some 63) (.bool false) rfl rfl (by kernel_rfl) (by kernel_rfl) (by kernel_rfl) (fun _ _ _ h => h) (by rfl) (fun W hSw => by obtain ⟨⟨q1, q2, _, _⟩, ⟨q3, q4, _, _⟩⟩ := hSw; go_simp) hS0 ?_
        simp only [Act.put, List.setIfInBounds_toArray, List.set_cons_zero, List.set_cons_succ]
        refine take_at 5 (some 64) (.bool false) rfl rfl (by kernel_rfl) (by kernel_rfl) (by kernel_rfl) (fun _ _ _ h => h) (by rfl) (fun W hSw => by obtain ⟨⟨q1, q2, _, _⟩, ⟨q3, q4, _, _⟩⟩ := hSw; go_simp) hS0 ?_
        simp only [Act.put, List.setIfInBounds_toArray, List.set_cons_zero, List.set_cons_succ]
        refine take_at 6 (some 65) (.bool false) rfl rfl (by kernel_rfl) (by kernel_rfl) (by kernel_rfl) (fun _ _ _ h => h) (by rfl) (fun W hSw => by obtain ⟨⟨q1, q2, _, _⟩, ⟨q3, q4, _, _⟩⟩ := hSw; go_simp) hS0 ?_
        simp only [Act.put, List.setIfInBounds_toArray, List.set_cons_zero, List.set_cons_succ]
        refine take_at 7 (some 66) (.bool false) rfl rfl (by kernel_rfl) (by kernel_rfl) (by kernel_rfl) (fun _ _ _ h => h) (by rfl) (fun W hSw => by obtain ⟨⟨q1, q2, _, _⟩, ⟨q3, q4, _, _⟩⟩ := hSw; go_simp) hS0 ?_
        simp only [Act.put, List.setIfInBounds_toArray, List.set_cons_zero, List.set_cons_succ]
        refine take_at 8 (some 67) (.bool false) rfl rfl (by kernel_rfl) (by kernel_rfl) (by kernel_rfl) (fun _ _ _ h => h) (by rfl) (fun W hSw => by obtain ⟨⟨q1, q2, _, _⟩, ⟨q3, q4, _, _⟩⟩ := hSw; go_simp) hS0 ?_
        simp only [Act.put, List.setIfInBounds_toArray, List.set_cons_zero, List.set_cons_succ]
        refine take_at 9 (some 68) (.bool false) rfl rfl (by kernel_rfl) (by kernel_rfl) (by kernel_rfl) (fun _ _ _ h => h) (by rfl) (fun W hSw => by obtain ⟨⟨q1, q2, _, _⟩, ⟨q3, q4, _, _⟩⟩ := hSw; go_simp) hS0 ?_
        simp only [Act.put, List.setIfInBounds_toArray, List.set_cons_zero, List.set_cons_succ]
        refine take_at 10 (some 69) (.bool false) rfl rfl (by kernel_rfl) (by kernel_rfl) (by kernel_rfl) (fun _ _ _ h => h) (by rfl) (fun W hSw => by obtain ⟨⟨q1, q2, _, _⟩, ⟨q3, q4, _, _⟩⟩ := hSw; go_simp) hS0 ?_
        simp only [Act.put, List.setIfInBounds_toArray, List.set_cons_zero, List.set_cons_succ]
        refine take_at 11 (some 70) (.bool false) rfl rfl (by kernel_rfl) (by kernel_rfl) (by kernel_rfl) (fun _ _ _ h => h) (by rfl) (fun W hSw => by obtain ⟨⟨q1, q2, _, _⟩, ⟨q3, q4, _, _⟩⟩ := hSw; go_simp) hS0 ?_
        simp only [Act.put, List.setIfInBounds_toArray, List.set_cons_zero, List.set_cons_succ]
        refine skip_at 12 (some 71) rfl rfl (by kernel_rfl) (by kernel_rfl) (by kernel_rfl) (fun _ _ _ h => h) (by rfl) hS0 ?_
        simp only [Act.put, List.setIfInBounds_toArray, List.set_cons_zero, List.set_cons_succ]
        refine skip_at 13 (some 72) rfl rfl (by kernel_rfl) (by kernel_rfl) (by kernel_rfl) (fun _ _ _ h => h) (by rfl) hS0 ?_
        simp only [Act.put, List.setIfInBounds_toArray, List.set_cons_zero, List.set_cons_succ]
        refine skip_at 14 (some 73) rfl rfl (by kernel_rfl) (by kernel_rfl) (by kernel_rfl) (fun _ _ _ h => h) (by rfl) hS0 ?_
        simp only [Act.put, List.setIfInBounds_toArray, List.set_cons_zero, List.set_cons_succ]
        refine skip_at 15 (some 74) rfl rfl (by kernel_rfl) (by kernel_rfl) (by kernel_rfl) (fun _ _ _ h => h) (by rfl) hS0 ?_
        simp only [Act.put, List.setIfInBounds_toArray, List.set_cons_zero, List.set_cons_succ]
        refine skip_at 16 (some 75) rfl rfl (by kernel_rfl) (by kernel_rfl) (by kernel_rfl) (fun _ _ _ h => h) (by rfl) hS0 ?_
        simp only [Act.put, List.setIfInBounds_toArray, List.set_cons_zero, List.set_cons_succ]
        refine skip_at 17 (some 76) rfl rfl (by kernel_rfl) (by kernel_rfl) (by kernel_rfl) (fun _ _ _ h => h) (by rfl) hS0 ?_
        simp only [Act.put, List.setIfInBounds_toArray, List.set_cons_zero, List.set_cons_succ]
        refine skip_at 18 (some 77) rfl rfl (by kernel_rfl) (by kernel_rfl) (by kernel_rfl) (fun _ _ _ h => h) (by rfl) hS0 ?_
        simp only [Act.put, List.setIfInBounds_toArray, List.set_cons_zero, List.set_cons_succ]
        refine skip_at 19 (some 78) rfl rfl (by kernel_rfl) (by kernel_rfl) (by kernel_rfl) (fun _ _ _ h => h) (by rfl) hS0 ?_
        simp only [Act.put, List.setIfInBounds_toArray, List.set_cons_zero, List.set_cons_succ]
        refine skip_at 20 (some 79) rfl rfl (by kernel_rfl) (by kernel_rfl) (by kernel_rfl) (fun _ _ _ h => h) (by rfl) hS0 ?_
        simp only [Act.put, List.setIfInBounds_toArray, List.set_cons_zero, List.set_cons_succ]
        refine skip_at 21 (some 80) rfl rfl (by kernel_rfl) (by kernel_rfl) (by kernel_rfl) (fun _ _ _ h => h) (by rfl) hS0 ?_
        simp only [Act.put, List.setIfInBounds_toArray, List.set_cons_zero, List.set_cons_succ]
        refine skip_at 22 (some 81) rfl rfl (by kernel_rfl) (by kernel_rfl) (by kernel_rfl) (fun _ _ _ h => h) (by rfl) hS0 ?_
        simp only [Act.put, List.setIfInBounds_toArray, List.set_cons_zero, List.set_cons_succ]
        refine skip_at 23 (some 82) rfl rfl (by kernel_rfl) (by kernel_rfl) (by kernel_rfl) (fun _ _ _ h => h) (by rfl) hS0 ?_
        simp only [Act.put, List.setIfInBounds_toArray, List.set_cons_zero, List.set_cons_succ]
        refine skip_at 24 (some 83) rfl rfl (by kernel_rfl) (by kernel_rfl) (by kernel_rfl) (fun _ _ _ h => h) (by rfl) hS0 ?_
        simp only [Act.put, List.setIfInBounds_toArray, List.set_cons_zero, List.set_cons_succ]
        refine take_at 25 (some 84) (.bool false) rfl rfl (by kernel_rfl) (by kernel_rfl) (by kernel_rfl) (fun _ _ _ h => h) (by rfl) (fun W hSw => by obtain ⟨⟨q1, q2, _, _⟩, ⟨q3, q4, _, _⟩⟩ := hSw; go_simp) hS0 ?_
        simp only [Act.put, List.setIfInBounds_toArray, List.set_cons_zero, List.set_cons_succ]
        refine take_at 26 (some 85) (.bool false) rfl rfl (by kernel_rfl) (by kernel_rfl) (by kernel_rfl) (fun _ _ _ h => h) (by rfl) (fun W hSw => by obtain ⟨⟨q1, q2, _, _⟩, ⟨q3, q4, _, _⟩⟩ := hSw; go_simp) hS0 ?_
        simp only [Act.put, List.setIfInBounds_toArray, List.set_cons_zero, List.set_cons_succ]
        refine take_at 27 (some 86) (.bool false) rfl rfl (by kernel_rfl) (by kernel_rfl) (by kernel_rfl) (fun _ _ _ h => h) (by rfl) (fun W hSw => by obtain ⟨⟨q1, q2, _, _⟩, ⟨q3, q4, _, _⟩⟩ := hSw; go_simp) hS0 ?_
        simp only [Act.put, List.setIfInBounds_toArray, List.set_cons_zero, List.set_cons_succ]
        refine take_at 28 (some 87) (.pointer (some ⟨b, 0, none⟩)) rfl rfl (by kernel_rfl) (by kernel_rfl) (by kernel_rfl) (fun _ _ _ h => h) (by rfl) (fun W hSw => by obtain ⟨⟨q1, q2, _, _⟩, ⟨q3, q4, _, _⟩⟩ := hSw; go_simp) hS0 ?_
        simp only [Act.put, List.setIfInBounds_toArray, List.set_cons_zero, List.set_cons_succ]
        refine wpAnyH_ready (rs := [29]) (by kernel_rfl) (by simp) ?_
        refine AllReadyH.cons rfl (fun K hK => ?_) AllReadyH.nil
        go_simp
        have rs := resets_st b LN k (i : Int) _ hxz
        rw [HS3.out] at rs
        refine rs.mono ?_
        rintro e v9 ⟨rfl, hbs1⟩
        have hu1s := huz.later hbs1
        have hr1s := hrz'.later hbs1
        have hx1s := hxz.later hbs1
        have hb1s := Below.chain hbz hbs1
        have hS1 := (⟨hu1s, hr1s⟩ : (fun W : World => Box W B1 false 0 ∧ Box W B2 false 0) v9)
        refine hK.out _ _ hS1 (fun _ => ?_)
        clear hK K
        refine take_at 30 (some 89) (.bool false) rfl rfl (by kernel_rfl) (by kernel_rfl) (by kernel_rfl) (fun _ _ _ h => h) (by rfl) (fun W hSw => by obtain ⟨⟨q1, q2, _, _⟩, ⟨q3, q4, _, _⟩⟩ := hSw; go_simp) hS1 ?_
        simp only [Act.put, List.setIfInBounds_toArray, List.set_cons_zero, List.set_cons_succ]
        refine take_at 31 (some 90) (.bool false) rfl rfl (by kernel_rfl) (by kernel_rfl) (by kernel_rfl) (fun _ _ _ h => h) (by rfl) (fun W hSw => by obtain ⟨⟨q1, q2, _, _⟩, ⟨q3, q4, _, _⟩⟩ := hSw; go_simp) hS1 ?_
        simp only [Act.put, List.setIfInBounds_toArray, List.set_cons_zero, List.set_cons_succ]
        refine wpAnyH_done (by kernel_rfl) ?_ _
        refine NoPanic.normal ?_
        have HIm := HI1.out
        have hfin : St v9 b (bl (vb B) k (i + 1)) k ((i + 1 - 1 : Nat) : Int) := by rw [HLN.out, HNow.out]; exact hx1s
        have hfb := hb1s
        go_wp2
        go_roundw
        case rel => exact ⟨i + 1, HI1, by go_num, hfin, hfb⟩
        case measure => have := HMx.out; simp [intOf]; omega
      · have hT : incT LN = .tuple #[.agg #[.bool false, .int .i64 ((y : Int) * 1000000)], .bool true] := by unfold incT; rw [HS1.out, if_neg (by omega), HS2.out]; rfl
        have hR : rtT LN k = .tuple #[.agg #[.bool qo, .int .i64 qn], .bool true] := by unfold rtT; rw [HS1.out, if_neg (by omega), HQ.out.1, HQ.out.2]
        have hg0 : decide ((0 : Int) < (i : Int)) = true := decide_eq_true (by omega)
        have hg0' : decide (0 < i) = true := decide_eq_true h0
        rw [hT] at gx
        clear h0 hl2 hT
        go_wp2_with fail
        refine gx.mono ?_
        rintro e w8 ⟨rfl, hb8⟩
        have hx8 := (hx7.later hb8).later (bal (Below.refl _ w8) (.cells #[.bool false, .int .i64 ((y : Int) * 1000000)] 28))
        have hu8 := Box.new w8 false ((y : Int) * 1000000)
        have hb8' := bal (Below.chain hb7 hb8) (.cells #[.bool false, .int .i64 ((y : Int) * 1000000)] 28)
        clear hx7 hb7 hb8 gx ek ey em eb
        have rx := rate_st b _ _ _ _ hx8
        rw [hR] at rx
        clear hR
        go_wp2_with fail
        generalize w8.heap.size = B1 at *
        generalize w8.alloc (.cells #[.bool false, .int .i64 ((y : Int) * 1000000)] 28) = w9 at *
        refine rx.mono ?_
        rintro e w10 ⟨rfl, hb10⟩
        have hx10 := (hx8.later hb10).later (bal (Below.refl _ w10) (.cells #[.bool qo, .int .i64 qn] 28))
        have hu10 := (hu8.later hb10).later (bal (Below.refl _ w10) (.cells #[.bool qo, .int .i64 qn] 28))
        have hr10 := Box.new w10 qo qn
        have hb10' := bal (Below.chain hb8' hb10) (.cells #[.bool qo, .int .i64 qn] 28)
        clear hx8 hu8 hb8' hb10 rx
        go_wp2_with fail
        generalize w10.heap.size = B2 at *
        generalize w10.alloc (.cells #[.bool qo, .int .i64 qn] 28) = w11 at *
        have hxz : St w11.drew b LN k (i : Int) := hx10.later (Below.refl _ _).drew
        have huz : Box w11.drew B1 false ((y : Int) * 1000000) := hu10.later (Below.refl _ _).drew
        have hrz' : Box w11.drew B2 qo qn := hr10.later (Below.refl _ _).drew
        have hbz : Below w.heap.size w w11.drew := hb10'.trans (Below.refl _ _).drew
        clear hx10 hu10 hr10 hb10'
        have hS0 : (fun W : World => Box W B1 false ((y : Int) * 1000000) ∧ Box W B2 qo qn) _ := ⟨huz, hrz'⟩
        refine wp_region_noPanic ?_
        refine wp_region_held_drew (S := fun W : World => Box W B1 false ((y : Int) * 1000000) ∧ Box W B2 qo qn) (by kernel_rfl) hS0 (fun _ => ?_)
        refine take_at 0 (some 59) (.bool true) rfl rfl (by kernel_rfl) (by kernel_rfl) (by kernel_rfl) (fun _ _ _ h => h) (by rfl) (fun W hSw => by obtain ⟨⟨q1, q2, _, _⟩, ⟨q3, q4, _, _⟩⟩ := hSw; go_simp) hS0 ?_
        simp only [Act.put, List.setIfInBounds_toArray, List.set_cons_zero, List.set_cons_succ]
        refine take_at 1 (some 60) (.int .i64 i) rfl rfl (by kernel_rfl) (by kernel_rfl) (by kernel_rfl) (fun _ _ _ h => h) (by rfl) (fun W hSw => by obtain ⟨⟨q1, q2, _, _⟩, ⟨q3, q4, _, _⟩⟩ := hSw; go_simp) hS0 ?_
        simp only [Act.put, List.setIfInBounds_toArray, List.set_cons_zero, List.set_cons_succ]
        refine take_at 2 (some 61) (.bool true) rfl rfl (by kernel_rfl) (by kernel_rfl) (by kernel_rfl) (fun _ _ _ h => h) (by rfl) (fun W hSw => by obtain ⟨⟨q1, q2, _, _⟩, ⟨q3, q4, _, _⟩⟩ := hSw; go_simp) hS0 ?_
        simp only [Act.put, List.setIfInBounds_toArray, List.set_cons_zero, List.set_cons_succ]
        refine take_at 3 (some 62) (.bool false) rfl rfl (by kernel_rfl) (by kernel_rfl) (by kernel_rfl) (fun _ _ _ h => h) (by rfl) (fun W hSw => by obtain ⟨⟨q1, q2, _, _⟩, ⟨q3, q4, _, _⟩⟩ := hSw; go_simp) hS0 ?_
        simp only [Act.put, List.setIfInBounds_toArray, List.set_cons_zero, List.set_cons_succ]
        refine take_at 4 (some 63) (.bool false) rfl rfl (by kernel_rfl) (by kernel_rfl) (by kernel_rfl) (fun _ _ _ h => h) (by rfl) (fun W hSw => by obtain ⟨⟨q1, q2, _, _⟩, ⟨q3, q4, _, _⟩⟩ := hSw; go_simp) hS0 ?_
        simp only [Act.put, List.setIfInBounds_toArray, List.set_cons_zero, List.set_cons_succ]
        refine take_at 5 (some 64) (.bool true) rfl rfl (by kernel_rfl) (by kernel_rfl) (by kernel_rfl) (fun _ _ _ h => h) (by rfl) (fun W hSw => by obtain ⟨⟨q1, q2, _, _⟩, ⟨q3, q4, _, _⟩⟩ := hSw; go_simp) hS0 ?_
        simp only [Act.put, List.setIfInBounds_toArray, List.set_cons_zero, List.set_cons_succ]
        refine take_at 6 (some 65) (.bool true) rfl rfl (by kernel_rfl) (by kernel_rfl) (by kernel_rfl) (fun _ _ _ h => h) (by rfl) (fun W hSw => by obtain ⟨⟨q1, q2, _, _⟩, ⟨q3, q4, _, _⟩⟩ := hSw; go_simp) hS0 ?_
        simp only [Act.put, List.setIfInBounds_toArray, List.set_cons_zero, List.set_cons_succ]
        refine take_at 7 (some 66) (.bool false) rfl rfl (by kernel_rfl) (by kernel_rfl) (by kernel_rfl) (fun _ _ _ h => h) (by rfl) (fun W hSw => by obtain ⟨⟨q1, q2, _, _⟩, ⟨q3, q4, _, _⟩⟩ := hSw; go_simp) hS0 ?_
        simp only [Act.put, List.setIfInBounds_toArray, List.set_cons_zero, List.set_cons_succ]
        refine take_at 8 (some 67) (.bool false) rfl rfl (by kernel_rfl) (by kernel_rfl) (by kernel_rfl) (fun _ _ _ h => h) (by rfl) (fun W hSw => by obtain ⟨⟨q1, q2, _, _⟩, ⟨q3, q4, _, _⟩⟩ := hSw; go_simp) hS0 ?_
        simp only [Act.put, List.setIfInBounds_toArray, List.set_cons_zero, List.set_cons_succ]
        refine take_at 9 (some 68) (.bool false) rfl rfl (by kernel_rfl) (by kernel_rfl) (by kernel_rfl) (fun _ _ _ h => h) (by rfl) (fun W hSw => by obtain ⟨⟨q1, q2, _, _⟩, ⟨q3, q4, _, _⟩⟩ := hSw; go_simp) hS0 ?_
        simp only [Act.put, List.setIfInBounds_toArray, List.set_cons_zero, List.set_cons_succ]
        refine take_at 10 (some 69) (.bool true) rfl rfl (by kernel_rfl) (by kernel_rfl) (by kernel_rfl) (fun _ _ _ h => h) (by rfl) (fun W hSw => by obtain ⟨⟨q1, q2, _, _⟩, ⟨q3, q4, _, _⟩⟩ := hSw; go_simp) hS0 ?_
        simp only [Act.put, List.setIfInBounds_toArray, List.set_cons_zero, List.set_cons_succ]
        refine take_at 11 (some 70) (.bool true) rfl rfl (by kernel_rfl) (by kernel_rfl) (by kernel_rfl) (fun _ _ _ h => h) (by rfl) (fun W hSw => by obtain ⟨⟨q1, q2, _, _⟩, ⟨q3, q4, _, _⟩⟩ := hSw; go_simp) hS0 ?_
        simp only [Act.put, List.setIfInBounds_toArray, List.set_cons_zero, List.set_cons_succ]
        refine take_at 12 (some 71) (.agg #[.bool false, .int .i64 ((y : Int) * 1000000)]) rfl rfl (by kernel_rfl) (by kernel_rfl) (by kernel_rfl) (fun _ _ _ h => h) (by rfl) (fun W hSw => by obtain ⟨⟨q1, q2, _, _⟩, ⟨q3, q4, _, _⟩⟩ := hSw; go_simp) hS0 ?_
        simp only [Act.put, List.setIfInBounds_toArray, List.set_cons_zero, List.set_cons_succ]
        refine take_at 13 (some 72) (.int .i64 y) rfl rfl (by kernel_rfl) (by kernel_rfl) (by kernel_rfl) (fun _ _ _ h => h) (by rfl) (fun W hSw => by obtain ⟨⟨q1, q2, _, _⟩, ⟨q3, q4, _, _⟩⟩ := hSw; go_simp <;> exact EY.out) hS0 ?_
        simp only [Act.put, List.setIfInBounds_toArray, List.set_cons_zero, List.set_cons_succ]
        refine wpAnyH_ready (rs := [14]) (by kernel_rfl) (by simp) ?_
        refine AllReadyH.cons rfl (fun K hK => ?_) AllReadyH.nil
        go_simp
        refine (hOy _).mono ?_
        rintro e v1 ⟨rfl, hbs1⟩
        have hu1s := huz.later hbs1
        have hr1s := hrz'.later hbs1
        have hx1s := hxz.later hbs1
        have hb1s := Below.chain hbz hbs1
        have hS1 := (⟨hu1s, hr1s⟩ : (fun W : World => Box W B1 false ((y : Int) * 1000000) ∧ Box W B2 qo qn) v1)
        refine hK.out _ _ hS1 (fun _ => ?_)
        clear hK K
        refine take_at 15 (some 74) (.bool false) rfl rfl (by kernel_rfl) (by kernel_rfl) (by kernel_rfl) (fun _ _ _ h => h) (by rfl) (fun W hSw => by exact run_neq _ _ (.tmp 71) (.tmp 73) false ((y : Int) * 1000000) rfl (by kernel_rfl) (by kernel_rfl) W) hS1 ?_
        simp only [Act.put, List.setIfInBounds_toArray, List.set_cons_zero, List.set_cons_succ]
        refine take_at 16 (some 75) (.bool false) rfl rfl (by kernel_rfl) (by kernel_rfl) (by kernel_rfl) (fun _ _ _ h => h) (by rfl) (fun W hSw => by obtain ⟨⟨q1, q2, _, _⟩, ⟨q3, q4, _, _⟩⟩ := hSw; go_simp) hS1 ?_
        simp only [Act.put, List.setIfInBounds_toArray, List.set_cons_zero, List.set_cons_succ]
        refine take_at 17 (some 76) (.agg #[.bool qo, .int .i64 qn]) rfl rfl (by kernel_rfl) (by kernel_rfl) (by kernel_rfl) (fun _ _ _ h => h) (by rfl) (fun W hSw => by obtain ⟨⟨q1, q2, _, _⟩, ⟨q3, q4, _, _⟩⟩ := hSw; go_simp) hS1 ?_
        simp only [Act.put, List.setIfInBounds_toArray, List.set_cons_zero, List.set_cons_succ]
        refine take_at 18 (some 77) (.int .i64 y) rfl rfl (by kernel_rfl) (by kernel_rfl) (by kernel_rfl) (fun _ _ _ h => h) (by rfl) (fun W hSw => by obtain ⟨⟨q1, q2, _, _⟩, ⟨q3, q4, _, _⟩⟩ := hSw; go_simp <;> exact EY.out) hS1 ?_
        simp only [Act.put, List.setIfInBounds_toArray, List.set_cons_zero, List.set_cons_succ]
        refine take_at 20 (some 79) (.int .i64 k) rfl rfl (by kernel_rfl) (by kernel_rfl) (by kernel_rfl) (fun _ _ _ h => h) (by rfl) (fun W hSw => by obtain ⟨⟨q1, q2, _, _⟩, ⟨q3, q4, _, _⟩⟩ := hSw; go_simp) hS1 ?_
        simp only [Act.put, List.setIfInBounds_toArray, List.set_cons_zero, List.set_cons_succ]
        refine wpAnyH_ready (rs := [19]) (by kernel_rfl) (by simp) ?_
        refine AllReadyH.cons rfl (fun K hK => ?_) AllReadyH.nil
        go_simp
        refine (hOy _).mono ?_
        rintro e v2 ⟨rfl, hbs2⟩
        have hu2s := hu1s.later hbs2
        have hr2s := hr1s.later hbs2
        have hx2s := hx1s.later hbs2
        have hb2s := Below.chain hb1s hbs2
        have hS2 := (⟨hu2s, hr2s⟩ : (fun W : World => Box W B1 false ((y : Int) * 1000000) ∧ Box W B2 qo qn) v2)
        refine hK.out _ _ hS2 (fun _ => ?_)
        clear hK K
        refine wpAnyH_ready (rs := [21]) (by kernel_rfl) (by simp) ?_
        refine AllReadyH.cons rfl (fun K hK => ?_) AllReadyH.nil
        go_simp
        refine (hOk _).mono ?_
        rintro e v3 ⟨rfl, hbs3⟩
        have hu3s := hu2s.later hbs3
        have hr3s := hr2s.later hbs3
        have hx3s := hx2s.later hbs3
        have hb3s := Below.chain hb2s hbs3
        have hS3 := (⟨hu3s, hr3s⟩ : (fun W : World => Box W B1 false ((y : Int) * 1000000) ∧ Box W B2 qo qn) v3)
        refine hK.out _ _ hS3 (fun _ => ?_)
        clear hK K
        refine wpAnyH_ready (rs := [22]) (by kernel_rfl) (by simp) ?_
        refine AllReadyH.cons rfl (fun K hK => ?_) AllReadyH.nil
        go_simp
        refine (hDv _).mono ?_
        rintro e v4 ⟨rfl, hbs4⟩
        have hu4s := hu3s.later hbs4
        have hr4s := hr3s.later hbs4
        have hx4s := hx3s.later hbs4
        have hb4s := Below.chain hb3s hbs4
        have hS4 := (⟨hu4s, hr4s⟩ : (fun W : World => Box W B1 false ((y : Int) * 1000000) ∧ Box W B2 qo qn) v4)
        refine hK.out _ _ hS4 (fun _ => ?_)
        clear hK K
        refine take_at 23 (some 82) (.bool false) rfl rfl (by kernel_rfl) (by kernel_rfl) (by kernel_rfl) (fun _ _ _ h => h) (by rfl) (fun W hSw => by exact run_neq _ _ (.tmp 76) (.tmp 81) qo qn rfl (by kernel_rfl) (by kernel_rfl) W) hS4 ?_
        simp only [Act.put, List.setIfInBounds_toArray, List.set_cons_zero, List.set_cons_succ]
        refine take_at 24 (some 83) (.bool false) rfl rfl (by kernel_rfl) (by kernel_rfl) (by kernel_rfl) (fun _ _ _ h => h) (by rfl) (fun W hSw => by obtain ⟨⟨q1, q2, _, _⟩, ⟨q3, q4, _, _⟩⟩ := hSw; go_simp) hS4 ?_
        simp only [Act.put, List.setIfInBounds_toArray, List.set_cons_zero, List.set_cons_succ]
        refine take_at 25 (some 84) (.bool false) rfl rfl (by kernel_rfl) (by kernel_rfl) (by kernel_rfl) (fun _ _ _ h => h) (by rfl) (fun W hSw => by obtain ⟨⟨q1, q2, _, _⟩, ⟨q3, q4, _, _⟩⟩ := hSw; go_simp) hS4 ?_
        simp only [Act.put, List.setIfInBounds_toArray, List.set_cons_zero, List.set_cons_succ]
        refine take_at 26 (some 85) (.bool false) rfl rfl (by kernel_rfl) (by kernel_rfl) (by kernel_rfl) (fun _ _ _ h => h) (by rfl) (fun W hSw => by obtain ⟨⟨q1, q2, _, _⟩, ⟨q3, q4, _, _⟩⟩ := hSw; go_simp) hS4 ?_
        simp only [Act.put, List.setIfInBounds_toArray, List.set_cons_zero, List.set_cons_succ]
        refine take_at 27 (some 86) (.bool false) rfl rfl (by kernel_rfl) (by kernel_rfl) (by kernel_rfl) (fun _ _ _ h => h) (by rfl) (fun W hSw => by obtain ⟨⟨q1, q2, _, _⟩, ⟨q3, q4, _, _⟩⟩ := hSw; go_simp) hS4 ?_
        simp only [Act.put, List.setIfInBounds_toArray, List.set_cons_zero, List.set_cons_succ]
        refine take_at 28 (some 87) (.pointer (some ⟨b, 0, none⟩)) rfl rfl (by kernel_rfl) (by kernel_rfl) (by kernel_rfl) (fun _ _ _ h => h) (by rfl) (fun W hSw => by obtain ⟨⟨q1, q2, _, _⟩, ⟨q3, q4, _, _⟩⟩ := hSw; go_simp) hS4 ?_
        simp only [Act.put, List.setIfInBounds_toArray, List.set_cons_zero, List.set_cons_succ]
        refine wpAnyH_ready (rs := [29]) (by kernel_rfl) (by simp) ?_
        refine AllReadyH.cons rfl (fun K hK => ?_) AllReadyH.nil
        go_simp
        have rs := resets_st b LN k (i : Int) _ hx4s
        rw [HS3.out] at rs
        refine rs.mono ?_
        rintro e v9 ⟨rfl, hbs5⟩
        have hu5s := hu4s.later hbs5
        have hr5s := hr4s.later hbs5
        have hx5s := hx4s.later hbs5
        have hb5s := Below.chain hb4s hbs5
        have hS5 := (⟨hu5s, hr5s⟩ : (fun W : World => Box W B1 false ((y : Int) * 1000000) ∧ Box W B2 qo qn) v9)
        refine hK.out _ _ hS5 (fun _ => ?_)
        clear hK K
        refine take_at 30 (some 89) (.bool false) rfl rfl (by kernel_rfl) (by kernel_rfl) (by kernel_rfl) (fun _ _ _ h => h) (by rfl) (fun W hSw => by obtain ⟨⟨q1, q2, _, _⟩, ⟨q3, q4, _, _⟩⟩ := hSw; go_simp) hS5 ?_
        simp only [Act.put, List.setIfInBounds_toArray, List.set_cons_zero, List.set_cons_succ]
        refine take_at 31 (some 90) (.bool false) rfl rfl (by kernel_rfl) (by kernel_rfl) (by kernel_rfl) (fun _ _ _ h => h) (by rfl) (fun W hSw => by obtain ⟨⟨q1, q2, _, _⟩, ⟨q3, q4, _, _⟩⟩ := hSw; go_simp) hS5 ?_
        simp only [Act.put, List.setIfInBounds_toArray, List.set_cons_zero, List.set_cons_succ]
        refine wpAnyH_done (by kernel_rfl) ?_ _
        refine NoPanic.normal ?_
        have HIm := HI1.out
        have hfin : St v9 b (bl (vb B) k (i + 1)) k ((i + 1 - 1 : Nat) : Int) := by rw [HLN.out, HNow.out]; exact hx5s
        have hfb := hb5s
        go_wp2
        go_roundw
        case rel => exact ⟨i + 1, HI1, by go_num, hfin, hfb⟩
        case measure => have := HMx.out; simp [intOf]; omega
    · have hd : decide ((i : Int) ≤ (M : Int)) = false := decide_eq_false (by omega)
      have hd' : decide (i ≤ M) = false := decide_eq_false hlt
      go_wp2
      go_ret
      exact ⟨rfl, hb⟩
end Go.Proofs.Ythcakiibkocheaa
