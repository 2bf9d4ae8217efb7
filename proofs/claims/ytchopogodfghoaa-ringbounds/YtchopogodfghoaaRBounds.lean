/- RingBounds: the walk. -/
import Derived.Test.YtchopogodfghoaaRKnown
namespace Go.Proofs.Ytchopogodfghoaa
open Go.RowKit

/-- Samples at m ticks from a on, one at each, each of one. -/
def run (a : Nat) : Nat → List Smp
  | 0 => []
  | m + 1 => ((a : Int), false, 1000000) :: run (a + 1) m
theorem run_snoc : ∀ (m a : Nat), run a m ++ [(((a + m : Nat) : Int), false, 1000000)] = run a (m + 1)
  | 0, a => rfl
  | m + 1, a => by
    have := run_snoc m (a + 1)
    rw [show a + 1 + m = a + (m + 1) by omega] at this
    show ((a : Int), false, (1000000 : Int)) :: (run (a + 1) m ++ _) = _
    rw [this]
    rfl
theorem run_len : ∀ (m a : Nat), (run a m).length = m
  | 0, _ => rfl
  | m + 1, a => by rw [run, List.length_cons, run_len m (a + 1)]
theorem run_lst (m a : Nat) : lst (run a (m + 1)) = (((a + m : Nat) : Int), false, 1000000) := by rw [← run_snoc, lst_snoc]
theorem run_sum : ∀ (m a : Nat), sumL (cnts (vls (run a m))) = some ((m : Int) * 1000000)
  | 0, _ => rfl
  | m + 1, a => by
    have e : cnts (vls (run a (m + 1))) = some 1000000 :: cnts (vls (run (a + 1) m)) := rfl
    rw [e, sumL, run_sum m (a + 1)]
    show some (1000000 + (m : Int) * 1000000) = _
    exact congrArg some (by omega)
theorem run_fSum (m a : Nat) : fSum (cnts (vls (run a m))) = fOf m := by
  unfold fSum
  rw [run_sum]
  rfl
theorem run_fg_none (t : Int) : ∀ (m a : Nat), t < a → fg t (run a m) = run a m
  | 0, _, _ => rfl
  | m + 1, a, h => by
    show (if (a : Int) ≤ t then _ else _) = _
    rw [if_neg (by omega)]
    rfl
theorem run_fg_all (t : Int) : ∀ (m a : Nat), ((a + m : Nat) : Int) ≤ t + 1 → fg t (run a m) = []
  | 0, _, _ => rfl
  | m + 1, a, h => by
    show (if (a : Int) ≤ t then _ else _) = _
    rw [if_pos (by omega)]
    exact run_fg_all t m (a + 1) (by omega)
theorem run_fg_one (a m : Nat) (t : Int) (h : t = a) : fg t (run a (m + 1)) = run (a + 1) m := by
  show (if (a : Int) ≤ t then fg t (run (a + 1) m) else _) = _
  rw [if_pos (by omega), run_fg_none _ _ _ (by omega)]
/-- What a window of k ticks holds behind i rounds. -/
def bl (k i : Nat) : List Smp := run (i - min i k) (min i k)
theorem bl_adv (k i : Nat) (hk : 1 ≤ k) : fg ((i : Int) - k) (bl k i) = run (i - min i (k - 1)) (min i (k - 1)) := by
  unfold bl
  by_cases h : i < k
  · rw [Nat.min_eq_left (by omega), Nat.min_eq_left (by omega), run_fg_none _ _ _ (by omega)]
  · obtain ⟨j, rfl⟩ : ∃ j, k = j + 1 := ⟨k - 1, by omega⟩
    rw [Nat.min_eq_right (by omega), Nat.min_eq_right (by omega), run_fg_one _ _ _ (by omega), show i - (j + 1) + 1 = i - (j + 1 - 1) by omega]
    rfl
theorem bl_adE (k i : Nat) (hk : 1 ≤ k) : adE (run (i - min i (k - 1)) (min i (k - 1))) k i i = 0 := by
  unfold adE
  rw [if_neg (by omega), if_neg]
  rintro ⟨h1, h2⟩
  cases hm : min i (k - 1) with
  | zero => rw [hm] at h1; exact h1 rfl
  | succ m =>
    rw [hm, run_lst] at h2
    have h3 : (i : Int) ≤ ((i - (m + 1) + m : Nat) : Int) := h2
    omega
theorem bl_adL (k i : Nat) (hk : 1 ≤ k) : adL (run (i - min i (k - 1)) (min i (k - 1))) k i (i, false, 1000000) = bl k (i + 1) := by
  unfold adL
  rw [if_pos (bl_adE k i hk)]
  have e : nrm ((i : Int), false, 1000000) = (((i - min i (k - 1) + min i (k - 1) : Nat) : Int), false, 1000000) := by
    rw [show i - min i (k - 1) + min i (k - 1) = i by omega]
    rfl
  rw [e, run_snoc]
  unfold bl
  rw [show min i (k - 1) + 1 = min (i + 1) k by omega, show i - min i (k - 1) = i + 1 - min (i + 1) k by omega]
theorem onw_up {a b : Int} (h : a ≤ b) (h1 : b ≤ 1000000) : onw a b = b := by unfold onw; omega
theorem w64 {x : Int} (h0 : -9223372036854775808 ≤ x) (h1 : x ≤ 9223372036854775807) : wrap64 x = x := by unfold wrap64; omega
theorem bnum (i k c a : Nat) (hi : i ≤ 399) (hk : 1 ≤ k ∧ k ≤ 100) (hc : min (i + 1) k = c) (ha : i + 1 - c = a) :
    wrap64 ((i : Int) + 1) = (i : Int) + 1 ∧ min ((i : Int) + 1) k = (c : Int) ∧ wrap64 ((i : Int) - k) = (i : Int) - k ∧ wrap64 ((i : Int) - k + 1) = (i : Int) - k + 1 ∧ max (0 : Int) ((i : Int) - k + 1) = (a : Int) :=
  ⟨w64 (by omega) (by omega), by omega, w64 (by omega) (by omega), w64 (by omega) (by omega), by omega⟩
theorem bend (m k : Nat) (hm : m ≤ 399) (hk : 1 ≤ k ∧ k ≤ 100) :
    onw (m : Int) ((m : Int) + k) = (m : Int) + k ∧ fg ((m : Int) + k - k) (bl k (m + 1)) = [] ∧ wrap64 ((m : Int) + k) = (m : Int) + k ∧ adE [] k ((m : Int) + k) m = 152 ∧ True :=
  ⟨onw_up (by omega) (by omega), run_fg_all _ _ _ (by omega), w64 (by omega) (by omega), adE_out (Or.inr (Or.inr (by omega))), trivial⟩
set_option maxHeartbeats 4000000 in
theorem bounds_any (N M : Nat) (w : World) (hN : N ≤ 255) (_hM : M ≤ 65535) :
    Calls Try.prog 5 #[.int .u8 N, .int .u16 M] w fun e w' => e = .returned (.bool true) ∧ Below w.heap.size w w' := by
  go_enter Try.func5, Try.ntmps5
  go_wp2_with fail
  refine (known_any _).mono ?_
  rintro e w1 ⟨rfl, hb1⟩
  go_wp2_with fail
  obtain ⟨k, hk⟩ : ∃ k : Nat, (k : Int) = (N : Int) % 100 + 1 := ⟨N % 100 + 1, by omega⟩
  obtain ⟨m, hm⟩ : ∃ m : Nat, (M : Int) % 400 = m := ⟨M % 400, by omega⟩
  have k1 : 1 ≤ k ∧ k ≤ 100 := by omega
  have m1 : m ≤ 399 := by omega
  rw [← hk]
  have hck : clamp (k : Int) = k := by unfold clamp; rw [if_neg (by omega), if_neg (by omega)]
  refine (new_st (k : Int) _).mono ?_
  rw [hck]
  rintro e w2 ⟨rfl, hs2, hb2⟩
  have hbb : w.heap.size ≤ w1.heap.size := hb1.size
  have hb2' := Below.chain hb1 hb2
  generalize w1.heap.size = b at *
  clear hck hb1 hb2 hk hN
  go_wp2_with fail
  go_loopw [7] (fun t wr => ∃ i : Nat, i ≤ m + 1 ∧ t = .int .i64 i ∧ St wr b (bl k i) k ((i - 1 : Nat) : Int) ∧ Below w.heap.size w wr) (fun t _ => m + 1 - (intOf t).toNat)
  case atStart => exact ⟨0, by omega, rfl, hs2, hb2'⟩
  case round =>
    obtain ⟨i, hi, rfl, hs, hb⟩ := hrel
    by_cases hlt : i ≤ m
    · have hd : decide ((i : Int) ≤ (m : Int)) = true := decide_eq_true (by omega)
      have ho : onw ((i - 1 : Nat) : Int) i = i := onw_up (by omega) (by omega)
      have hadv := adv_st b _ _ _ (i : Int) wr hs
      rw [ho, bl_adv k i k1.1] at hadv
      have hE := bl_adE k i k1.1
      have hL := bl_adL k i k1.1
      clear hs ho
      go_wp2_with fail
      refine hadv.mono ?_
      rintro e w3 ⟨rfl, hs3, hg3⟩
      have hb3 := grown_above hb hg3 hb.size hbb
      clear hadv hg3 hb
      go_wp2_with fail
      refine (kn_of 1 1000000 (by decide +kernel) (r64_lit rfl) _).mono ?_
      rintro e w4 ⟨rfl, hb4⟩
      have hs4 := hs3.later hb4
      have hb4' := Below.chain hb3 hb4
      clear hs3 hb3 hb4
      go_wp2_with fail
      have hadd := add_st b _ _ _ ((i : Int), false, 1000000) w4 hs4 (r64_lit rfl)
      rw [hL, show ((i : Int), false, (1000000 : Int)).1 = (i : Int) from rfl, hE] at hadd
      refine hadd.mono ?_
      rintro e w5 ⟨rfl, hs5, hg5⟩
      have hb5 := grown_above hb4' hg5 hb4'.size hbb
      obtain ⟨c, hc⟩ : ∃ c, min (i + 1) k = c := ⟨_, rfl⟩
      obtain ⟨a, ha⟩ : ∃ a, i + 1 - c = a := ⟨_, rfl⟩
      have hbl : bl k (i + 1) = run a c := by unfold bl; rw [hc, ha]
      have hlen : (run a c).length = c := run_len _ _
      have hsum := sumR_any b (run a c) k i w5 (by rw [← hbl]; exact hs5.m) (by rw [← hbl]; exact hs5.f.rg)
      rw [run_fSum] at hsum
      have hc1 : 1 ≤ c := by omega
      have hget : (run a c).getD 0 s0 = ((a : Int), false, 1000000) := by
        obtain ⟨c', rfl⟩ : ∃ c', c = c' + 1 := ⟨c - 1, by omega⟩
        rfl
      have hemp : (run a c).isEmpty = false := by
        obtain ⟨c', rfl⟩ : ∃ c', c = c' + 1 := ⟨c - 1, by omega⟩
        rfl
      have hci : c ≤ i + 1 ∧ c ≤ 100 := by omega
      have HN : Hid (bl k (i + 1) = run a c) := hbl
      rw [hbl] at hs5
      obtain ⟨e1, e2, e3, e4, e5⟩ := bnum i k c a (by omega) k1 hc ha
      have hln := len_any b (run a c) k i w5 hs5.m
      rw [hlen] at hln
      have hfi := fun W (hW : St W b (run a c) k i) => first_any b (run a c) k i W hW.m
      rw [hget, hemp] at hfi
      clear hadd hg5 hs4 hb4' hE hL hc ha hget hemp hlen hbl
      go_wp2_with fail
      refine hln.mono ?_
      rintro e w6 ⟨rfl, rfl⟩
      go_wp2_with fail
      refine hsum.mono ?_
      rintro e w7 ⟨rfl, hb7⟩
      have hs7 := hs5.later hb7
      have hb7' := Below.chain hb5 hb7
      go_wp2_with fail
      refine (of_any c _ (by unfold R64; omega)).mono ?_
      rintro e w8 ⟨rfl, hb8⟩
      have hs8 := hs7.later hb8
      have hb8' := Below.chain hb7' hb8
      clear hs5 hs7 hb5 hb7 hb7' hb8 hsum hln
      generalize ov (fOf c) = fo at *
      generalize nn (fOf c) = fn at *
      go_wp2_with fail
      refine (hfi _ hs8).mono ?_
      rintro e w9 ⟨rfl, hb9⟩
      have hs9 := (hs8.later hb9).later (bal (Below.refl _ _) (.cells #[.int .i64 a, .bool false, .int .i64 1000000] 38))
      have hb9' := bal (Below.chain hb8' hb9) (.cells #[.int .i64 a, .bool false, .int .i64 1000000] 38)
      go_wp2
      go_roundw
      case rel => exact ⟨i + 1, by omega, by go_num, by rw [HN.out]; exact hs9, hb9'⟩
      case measure => simp [intOf]; omega
    · obtain rfl : i = m + 1 := by omega
      obtain ⟨e1, e2, e3, e4, e5⟩ := bend m k m1 k1
      have hs0 : St wr b (bl k (m + 1)) k (m : Int) := hs
      have hadv := adv_st b _ _ _ ((m : Int) + k) wr hs0
      rw [e1, e2] at hadv
      have hd : decide ((m : Int) + 1 ≤ (m : Int)) = false := decide_eq_false (by omega)
      have hm' : wrap64 (m : Int) = (m : Int) := w64 (by omega) (by omega)
      clear hs hs0 hi hlt
      go_wp2_with fail
      refine hadv.mono ?_
      rintro e w3 ⟨rfl, hs3, hg3⟩
      have hb3 := grown_above hb hg3 hb.size hbb
      clear hadv hg3 hb
      go_wp2_with fail
      refine (len_any b [] k _ _ hs3.m).mono ?_
      rintro e w4 ⟨rfl, rfl⟩
      rw [List.length_nil]
      go_wp2_with fail
      refine (kn_of 1 1000000 (by decide +kernel) (r64_lit rfl) _).mono ?_
      rintro e w4 ⟨rfl, hb4⟩
      have hs4 := hs3.later hb4
      have hb4' := Below.chain hb3 hb4
      clear hs3 hb3 hb4
      go_wp2_with fail
      have hadd := add_st b _ _ _ ((m : Int), false, 1000000) w4 hs4 (r64_lit rfl)
      rw [show ((m : Int), false, (1000000 : Int)).1 = (m : Int) from rfl, e4] at hadd
      refine hadd.mono ?_
      rintro e w5 ⟨rfl, hs5, hg5⟩
      have hb5 := grown_above hb4' hg5 hb4'.size hbb
      go_wp2
      go_ret
      exact ⟨rfl, hb5⟩
end Go.Proofs.Ytchopogodfghoaa
