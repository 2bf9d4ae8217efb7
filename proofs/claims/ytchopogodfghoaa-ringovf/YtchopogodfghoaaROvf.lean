/- RingOvf: the walk. -/
import Derived.Test.YtchopogodfghoaaRNum
namespace Go.Proofs.Ytchopogodfghoaa
open Go.RowKit

/-- The value at tick i: i whole, or overflow where it is o. -/
def vo (o i : Nat) : Bool × Int := if i = o then (true, 0) else (false, (i : Int) * 1000000)
/-- Samples at m ticks from a on. -/
def rno (o a : Nat) : Nat → List Smp
  | 0 => []
  | m + 1 => ((a : Int), vo o a) :: rno o (a + 1) m
theorem rno_snoc (o : Nat) : ∀ (m a : Nat), rno o a m ++ [(((a + m : Nat) : Int), vo o (a + m))] = rno o a (m + 1)
  | 0, a => rfl
  | m + 1, a => by
    have := rno_snoc o m (a + 1)
    rw [show a + 1 + m = a + (m + 1) by omega] at this
    show ((a : Int), vo o a) :: (rno o (a + 1) m ++ _) = _
    rw [this]
    rfl
theorem rno_lst (o m a : Nat) : lst (rno o a (m + 1)) = (((a + m : Nat) : Int), vo o (a + m)) := by rw [← rno_snoc, lst_snoc]
theorem rno_fg_none (o : Nat) (t : Int) : ∀ (m a : Nat), t < a → fg t (rno o a m) = rno o a m
  | 0, _, _ => rfl
  | m + 1, a, h => by
    show (if (a : Int) ≤ t then _ else _) = _
    rw [if_neg (by omega)]
    rfl
theorem rno_fg_one (o a m : Nat) (t : Int) (h : t = a) : fg t (rno o a (m + 1)) = rno o (a + 1) m := by
  show (if (a : Int) ≤ t then fg t (rno o (a + 1) m) else _) = _
  rw [if_pos (by omega), rno_fg_none _ _ _ _ (by omega)]
/-- What the window of ten ticks holds behind i rounds. -/
def ol (o i : Nat) : List Smp := rno o (i - min i 10) (min i 10)
theorem ol_adv (o i : Nat) : fg ((i : Int) - 10) (ol o i) = rno o (i - min i 9) (min i 9) := by
  unfold ol
  by_cases h : i < 10
  · rw [Nat.min_eq_left (by omega), Nat.min_eq_left (by omega), rno_fg_none _ _ _ _ (by omega)]
  · rw [Nat.min_eq_right (by omega), Nat.min_eq_right (by omega), rno_fg_one _ _ 9 _ (by omega), show i - 10 + 1 = i - 9 by omega]
theorem ol_adE (o i : Nat) : adE (rno o (i - min i 9) (min i 9)) 10 i i = 0 := by
  unfold adE
  rw [if_neg (by omega), if_neg]
  rintro ⟨h1, h2⟩
  cases hm : min i 9 with
  | zero => rw [hm] at h1; exact h1 rfl
  | succ m =>
    rw [hm, rno_lst] at h2
    have h3 : (i : Int) ≤ ((i - (m + 1) + m : Nat) : Int) := h2
    omega
theorem vo_cnt (o i : Nat) (hi : i ≤ 1000) : cnt (vo o i).1 (vo o i).2 = if i = o then none else some ((i : Int) * 1000000) := by
  unfold vo
  split
  · rfl
  · exact ex_cnt _ (by show _ ≤ (i : Int) * 1000000; omega)
theorem vo_nrm (o i : Nat) (hi : i ≤ 1000) (t : Int) : nrm (t, vo o i) = (t, vo o i) := by
  unfold nrm
  show (t, ov (cnt (vo o i).1 (vo o i).2), nn (cnt (vo o i).1 (vo o i).2)) = _
  rw [vo_cnt o i hi]
  unfold vo
  split <;> rfl
theorem ol_adL (o i : Nat) (hi : i ≤ 1000) : adL (rno o (i - min i 9) (min i 9)) 10 i (i, vo o i) = ol o (i + 1) := by
  unfold adL
  rw [if_pos (ol_adE o i), vo_nrm o i hi]
  have e : ((i : Int), vo o i) = (((i - min i 9 + min i 9 : Nat) : Int), vo o (i - min i 9 + min i 9)) := by
    rw [show i - min i 9 + min i 9 = i by omega]
  rw [e, rno_snoc]
  unfold ol
  rw [show min i 9 + 1 = min (i + 1) 10 by omega, show i - min i 9 = i + 1 - min (i + 1) 10 by omega]
/-- The sum of the numbers from a on. -/
def from_ (a : Nat) : Nat → Int
  | 0 => 0
  | m + 1 => (a : Int) + from_ (a + 1) m
theorem from_snoc : ∀ (m a : Nat), from_ a (m + 1) = from_ a m + ((a + m : Nat) : Int)
  | 0, a => by show (a : Int) + 0 = 0 + _; omega
  | m + 1, a => by
    have := from_snoc m (a + 1)
    show (a : Int) + from_ (a + 1) (m + 1) = (a : Int) + from_ (a + 1) m + _
    rw [this]
    omega
theorem from_range : ∀ (m a : Nat), a + m ≤ 1000 → 0 ≤ from_ a m ∧ from_ a m ≤ (m : Int) * 1000
  | 0, a, _ => by show (0 : Int) ≤ 0 ∧ (0 : Int) ≤ _; omega
  | m + 1, a, h => by
    rw [from_snoc]
    obtain ⟨g0, g1⟩ := from_range m a (by omega)
    omega
theorem none_oadd (x : Option Int) : oadd none x = none := by cases x <;> rfl
theorem rno_sum (o : Nat) : ∀ (m a : Nat), a + m ≤ 1000 → sumL (cnts (vls (rno o a m))) = if a ≤ o ∧ o < a + m then none else some (from_ a m * 1000000)
  | 0, a, _ => by
    rw [if_neg (by omega)]
    rfl
  | m + 1, a, h => by
    have e : cnts (vls (rno o a (m + 1))) = cnt (vo o a).1 (vo o a).2 :: cnts (vls (rno o (a + 1) m)) := rfl
    rw [e, sumL, rno_sum o m (a + 1) (by omega), vo_cnt o a (by omega)]
    by_cases h1 : a = o
    · subst h1
      rw [if_pos rfl, if_pos (show a ≤ a ∧ a < a + (m + 1) by omega)]
      exact none_oadd _
    · rw [if_neg h1]
      by_cases h2 : a + 1 ≤ o ∧ o < a + 1 + m
      · rw [if_pos h2, if_pos (show a ≤ o ∧ o < a + (m + 1) by omega)]
        rfl
      · rw [if_neg h2, if_neg (show ¬ (a ≤ o ∧ o < a + (m + 1)) by omega)]
        show some ((a : Int) * 1000000 + from_ (a + 1) m * 1000000) = some (((a : Int) + from_ (a + 1) m) * 1000000)
        rw [Int.add_mul]
theorem ol_fSum (o i : Nat) (hi : i ≤ 100) : fSum (cnts (vls (ol o i))) = if i ≤ o + 10 ∧ o < i then none else fOf (from_ (i - min i 10) (min i 10)) := by
  unfold fSum ol
  rw [rno_sum o _ _ (by omega)]
  by_cases h : i ≤ o + 10 ∧ o < i
  · rw [if_pos h, if_pos (by omega)]
  · rw [if_neg h, if_neg (by omega)]
    rfl
theorem k_of0 (i : Nat) (h : i ≤ 40) : fOf (i : Int) = some ((i : Int) * 1000000) := fOf_small (i : Int) (by omega) (by omega)
theorem k_of1 (i : Nat) (h : i ≤ 40) : R64 (i : Int) := ⟨by omega, by omega⟩
theorem k_of (i : Nat) (h : i ≤ 40) (w : World) : Calls Try.prog 20 #[.int .i64 i] w fun e w' => e = .returned (.agg #[.bool false, .int .i64 ((i : Int) * 1000000)]) ∧ Below w.heap.size w w' :=
  kn_of (i : Int) ((i : Int) * 1000000) (k_of0 i h) (k_of1 i h) w
theorem vo_r64 (o i : Nat) (h : i ≤ 40) : R64 (vo o i).2 := by
  unfold vo
  by_cases e : i = o
  · rw [if_pos e]
    exact r64_lit rfl
  · rw [if_neg e]
    have h0 : -9223372036854775808 ≤ (i : Int) * 1000000 := by omega
    have h1 : (i : Int) * 1000000 ≤ 9223372036854775807 := by omega
    exact ⟨h0, h1⟩
/-- Numbers of a round. -/
theorem onum (i c a o : Nat) (hi : i ≤ 40) (ho : o ≤ 40) (hc : min (i + 1) 10 = c) (ha : i + 1 - c = a) :
    wrap64 ((i : Int) - 9) = (i : Int) - 9 ∧ max (0 : Int) ((i : Int) - 9) = (a : Int) ∧ wrap64 ((i : Int) - o) = (i : Int) - o ∧ a + c = i + 1 ∧ c ≤ 10 ∧ wrap64 ((i : Int) + 1) = (i : Int) + 1 :=
  ⟨wf64 (by omega) (by omega), by omega, wf64 (by omega) (by omega), by omega, by omega, wf64 (by omega) (by omega)⟩
theorem addi (a x c : Nat) (h : a + c ≤ 41) (hx : x < c) : wrap64 (from_ a x + ((a + x : Nat) : Int)) = from_ a (x + 1) ∧ wrap64 (((a + x : Nat) : Int) + 1) = ((a + (x + 1) : Nat) : Int) := by
  have := from_range x a (by omega)
  rw [from_snoc]
  exact ⟨wf64 (by omega) (by omega), by rw [wf64 (by omega) (by omega)]; omega⟩
/-- A step of adding up. -/
theorem rnd (i c a x : Nat) (J S : Int) (h : a + c = i + 1) (hi : i ≤ 40) (hx : x < c) (hJ : J = ((a + x : Nat) : Int) ∧ S = from_ a x) :
    ∃ J' S', decide (J ≤ (i : Int)) = true ∧ wrap64 (S + J) = S' ∧ wrap64 (J + 1) = J' ∧ Hid (J' = ((a + (x + 1) : Nat) : Int) ∧ S' = from_ a (x + 1)) ∧ i + 1 - (intOf (.int .i64 J')).toNat < i + 1 - (intOf (.int .i64 J)).toNat := by
  obtain ⟨rfl, rfl⟩ := hJ
  obtain ⟨g1, g2⟩ := addi a x c (by omega) hx
  refine ⟨_, _, decide_eq_true (by omega), g1, g2, ⟨rfl, rfl⟩, ?_⟩
  show i + 1 - (((a + (x + 1) : Nat) : Int)).toNat < i + 1 - (((a + x : Nat) : Int)).toNat
  rw [Int.toNat_natCast, Int.toNat_natCast]
  omega
theorem rndE (i c a x : Nat) (J S : Int) (h : a + c = i + 1) (hi : i ≤ 40) (hx : ¬ x < c ∧ x ≤ c) (hJ : J = ((a + x : Nat) : Int) ∧ S = from_ a x) :
    decide (J ≤ (i : Int)) = false ∧ fOf (from_ a c) = some (S * 1000000) ∧ fOf S = some (S * 1000000) ∧ R64 S := by
  obtain rfl : x = c := by omega
  obtain ⟨rfl, rfl⟩ := hJ
  have hr := from_range x a (by omega)
  have h1 : (x : Int) ≤ 41 := by omega
  exact ⟨decide_eq_false (by omega), fOf_small _ (by omega) (by omega), fOf_small _ (by omega) (by omega), by omega, by omega⟩
set_option maxHeartbeats 8000000 in
theorem ovf_any_law (A M : Nat) (w : World) (hA : A ≤ 255) (hM : M ≤ 255) :
    Calls Try.prog 6 #[.int .u8 A, .int .u8 M] w fun e w' => e = .returned (.bool true) ∧ Below w.heap.size w w' := by
  have hfo := field_ovf
  go_enter Try.func6, Try.ntmps6
  go_wp2_with fail
  refine (known_any _).mono ?_
  rintro e w1 ⟨rfl, hb1⟩
  go_wp2_with fail
  refine (new_st 10 _).mono ?_
  rw [show clamp 10 = 10 by decide]
  rintro e w2 ⟨rfl, hs2, hb2⟩
  have hbb : w.heap.size ≤ w1.heap.size := hb1.size
  have hb2' := Below.chain hb1 hb2
  generalize w1.heap.size = b at *
  clear hb1 hb2
  go_wp2_with fail
  obtain ⟨k, hk⟩ : ∃ k : Nat, (M : Int) % 40 + 1 = k := ⟨M % 40 + 1, by omega⟩
  have k1 : 1 ≤ k ∧ k ≤ 40 := by omega
  rw [hk]
  obtain ⟨o, ho⟩ : ∃ o : Nat, (A : Int) % (k : Int) = o := ⟨A % k, by simp⟩
  have ho1 : (o : Int) < k := by rw [← ho]; exact Int.emod_lt_of_pos _ (by omega)
  have ho2 : o ≤ 40 := by omega
  rw [ho]
  clear hk ho hA hM
  go_loopw [8] (fun t wr => ∃ i : Nat, i ≤ k ∧ t = .int .i64 i ∧ St wr b (ol o i) 10 ((i - 1 : Nat) : Int) ∧ Below w.heap.size w wr) (fun t _ => k - (intOf t).toNat)
  case atStart => exact ⟨0, by omega, rfl, hs2, hb2'⟩
  case round =>
    obtain ⟨i, hi, rfl, hs, hb⟩ := hrel
    by_cases hlt : i < k
    · have hd : decide ((i : Int) < (k : Int)) = true := decide_eq_true (by omega)
      have hon : onw ((i - 1 : Nat) : Int) i = i := onw_to (by omega) (by omega)
      have hadv := fun W hW => adv_st b _ _ _ (i : Int) W (show St W b (ol o i) 10 ((i - 1 : Nat) : Int) from hW)
      rw [hon, ol_adv o i] at hadv
      have hL := ol_adL o i (by omega)
      obtain ⟨c, hc⟩ : ∃ c, min (i + 1) 10 = c := ⟨_, rfl⟩
      obtain ⟨a, ha⟩ : ∃ a, i + 1 - c = a := ⟨_, rfl⟩
      have hfs := ol_fSum o (i + 1) (by omega)
      rw [hc, ha] at hfs
      obtain ⟨e1', e2', e3', e4, e5, e6'⟩ := onum i c a o (by omega) ho2 hc ha
      have E2 : Hid (wrap64 ((i : Int) - 9) = (i : Int) - 9 ∧ max (0 : Int) ((i : Int) - 9) = (a : Int) ∧ wrap64 ((i : Int) - o) = (i : Int) - o) := ⟨e1', e2', e3'⟩
      have E6 : Hid (wrap64 ((i : Int) + 1) = (i : Int) + 1) := e6'
      have HE : Hid (adE (rno o (i - min i 9) (min i 9)) 10 i i = 0) := ol_adE o i
      clear e1' e2' e3' e6'
      have hi40 : i ≤ 40 := by omega
      have hk0 := k_of i hi40
      have hvr := vo_r64 o i hi40
      clear hon hc ha
      go_wp2_with fail
      refine (hk0 _).mono ?_
      rintro e w3 ⟨rfl, hb3⟩
      have hs3a := hs.later hb3
      have hb3a := Below.chain hb hb3
      have hbl := hs3a.m.lt
      have hbn : b ≠ w3.heap.size := by omega
      clear hs hb hb3
      by_cases hio : i = o
      · subst hio
        have hvo : vo i i = (true, 0) := by unfold vo; rw [if_pos rfl]
        have dd : ((i : Int) == (i : Int)) = true := by rw [beq_iff_eq]
        rw [if_pos (by omega)] at hfs
        have hs3 := hs3a.later (bal (Below.refl _ _) (.cells #[.bool true, .int .i64 0] 31))
        have hx3 := Box.new w3 true 0
        have hb3 := bal hb3a (.cells #[.bool true, .int .i64 0] 31)
        have hadv := hadv _ hs3
        have hw0 : wrap64 0 = 0 := wf64 (by omega) (by omega)
        clear hs3a hb3a
        go_wp2_with fail
        generalize w3.alloc (.cells #[.bool true, .int .i64 0] 31) = w3a at *
        refine hadv.mono ?_
        rintro e w4 ⟨rfl, hs4, hg4⟩
        have hx4 := hx3.kept hg4 (by simp; omega)
        have hb4 := grown_above hb3 hg4 hb3.size hbb
        obtain ⟨x0, x1, _, _⟩ := id hx4
        have hadd := add_st b _ _ _ ((i : Int), vo i i) w4 hs4 hvr
        rw [hL, show ((i : Int), vo i i).1 = (i : Int) from rfl, HE.out, hvo] at hadd
        clear hadv hg4 hb3 hs4 hx3
        go_wp2_with fail
        refine hadd.mono ?_
        rintro e w5 ⟨rfl, hs5, hg5⟩
        have hb5 := grown_above hb4 hg5 hb4.size hbb
        have hsum := fun W (hW : St W b (ol i (i + 1)) 10 i) => sumR_any b _ _ _ W hW.m hW.f.rg
        rw [hfs] at hsum
        clear hadd hg5 hb4 x0 x1 hx4
        have d1 : decide ((i : Int) ≤ (i : Int)) = true := decide_eq_true (by omega)
        have d2 : decide ((i : Int) - (i : Int) < 10) = true := decide_eq_true (by omega)
        obtain ⟨e1, e2, e3⟩ := E2.out
        go_wp2_with fail
        clear e1 e2 e3
        go_loopw [12, 11] (fun j s wr => ∃ (x : Nat) (J S : Int), x ≤ c ∧ j = .int .i64 J ∧ s = .int .i64 S ∧ Hid (J = ((a + x : Nat) : Int) ∧ S = from_ a x) ∧ wr = w5) (fun j _ _ => i + 1 - (intOf j).toNat)
        case atStart => exact ⟨0, (a : Int), 0, by omega, rfl, rfl, ⟨rfl, rfl⟩, rfl⟩
        case round =>
          obtain ⟨x, J, S, hx, rfl, rfl, hJS, rfl⟩ := hrel
          by_cases hlx : x < c
          · obtain ⟨J', S', g1, g2, g3, g4, g5⟩ := rnd i c a x J S e4 (by omega) hlx hJS.out
            go_wp2_with fail
            go_roundw
            case rel => exact ⟨x + 1, J', S', hlx, by rw [g3], by rw [g2], g4, trivial⟩
            case measure => rw [g3]; exact g5
          · obtain ⟨hdx, hf1, hf2, hr1⟩ := rndE i c a x J S e4 (by omega) (by omega) hJS.out
            go_wp2_with fail
            refine (hsum _ hs5).mono ?_
            rintro e w6 ⟨rfl, hb6⟩
            have e6 := E6.out
            go_wp2
            go_roundw
            clear e6
            case rel => exact ⟨i + 1, by omega, by go_num, hs5.later hb6, Below.chain hb5 hb6⟩
            case measure => simp [intOf]; omega
      · have hvo : vo o i = (false, (i : Int) * 1000000) := by unfold vo; rw [if_neg hio]
        have dd : ((i : Int) == (o : Int)) = false := by rw [beq_eq_false_iff_ne]; omega
        have hs3 := hs3a.later (bal (Below.refl _ _) (.cells #[.bool false, .int .i64 ((i : Int) * 1000000)] 31))
        have hx3 := Box.new w3 false ((i : Int) * 1000000)
        have hb3 := bal hb3a (.cells #[.bool false, .int .i64 ((i : Int) * 1000000)] 31)
        clear hs3a hb3a
        obtain ⟨x0, x1, f0, f1⟩ := id hx3
        have hadv := hadv _ hs3
        by_cases h1 : i < o
        · rw [if_neg (by omega)] at hfs
          go_wp2_with fail
          generalize w3.alloc (.cells #[.bool false, .int .i64 ((i : Int) * 1000000)] 31) = w3a at *
          refine hadv.mono ?_
          rintro e w4 ⟨rfl, hs4, hg4⟩
          have hx4 := hx3.kept hg4 (by simp; omega)
          have hb4 := grown_above hb3 hg4 hb3.size hbb
          obtain ⟨x0, x1, _, _⟩ := id hx4
          have hadd := add_st b _ _ _ ((i : Int), vo o i) w4 hs4 hvr
          rw [hL, show ((i : Int), vo o i).1 = (i : Int) from rfl, HE.out, hvo] at hadd
          clear hadv hg4 hb3 hs4 hx3
          go_wp2_with fail
          refine hadd.mono ?_
          rintro e w5 ⟨rfl, hs5, hg5⟩
          have hb5 := grown_above hb4 hg5 hb4.size hbb
          have hsum := fun W (hW : St W b (ol o (i + 1)) 10 i) => sumR_any b _ _ _ W hW.m hW.f.rg
          rw [hfs] at hsum
          clear hadd hg5 hb4 x0 x1 hx4
          have d1 : decide ((o : Int) ≤ (i : Int)) = false := decide_eq_false (by omega)
          obtain ⟨e1, e2, e3⟩ := E2.out
          go_wp2_with fail
          clear e1 e2 e3
          go_loopw [12, 11] (fun j s wr => ∃ (x : Nat) (J S : Int), x ≤ c ∧ j = .int .i64 J ∧ s = .int .i64 S ∧ Hid (J = ((a + x : Nat) : Int) ∧ S = from_ a x) ∧ wr = w5) (fun j _ _ => i + 1 - (intOf j).toNat)
          case atStart => exact ⟨0, (a : Int), 0, by omega, rfl, rfl, ⟨rfl, rfl⟩, rfl⟩
          case round =>
            obtain ⟨x, J, S, hx, rfl, rfl, hJS, rfl⟩ := hrel
            by_cases hlx : x < c
            · obtain ⟨J', S', g1, g2, g3, g4, g5⟩ := rnd i c a x J S e4 (by omega) hlx hJS.out
              go_wp2_with fail
              go_roundw
              case rel => exact ⟨x + 1, J', S', hlx, by rw [g3], by rw [g2], g4, trivial⟩
              case measure => rw [g3]; exact g5
            · obtain ⟨hdx, hf1, hf2, hr1⟩ := rndE i c a x J S e4 (by omega) (by omega) hJS.out
              rw [hf1] at hsum
              have hks := kn_of S (S * 1000000) hf2 hr1
              clear hf2
              go_wp2_with fail
              refine (hsum _ hs5).mono ?_
              rintro e w6 ⟨rfl, hb6⟩
              have hs6 := hs5.later hb6
              go_wp2_with fail
              refine (hsum _ hs6).mono ?_
              rintro e w7 ⟨rfl, hb7⟩
              have hs7 := hs6.later hb7
              go_wp2_with fail
              refine (hks _).mono ?_
              rintro e w8 ⟨rfl, hb8⟩
              have e6 := E6.out
              go_wp2
              go_roundw
              clear e6
              case rel => exact ⟨i + 1, by omega, by go_num, hs7.later hb8, Below.chain (Below.chain (Below.chain hb5 hb6) hb7) hb8⟩
              case measure => simp [intOf]; omega
        · by_cases h2 : i < o + 10
          · rw [if_pos (by omega)] at hfs
            go_wp2_with fail
            generalize w3.alloc (.cells #[.bool false, .int .i64 ((i : Int) * 1000000)] 31) = w3a at *
            refine hadv.mono ?_
            rintro e w4 ⟨rfl, hs4, hg4⟩
            have hx4 := hx3.kept hg4 (by simp; omega)
            have hb4 := grown_above hb3 hg4 hb3.size hbb
            obtain ⟨x0, x1, _, _⟩ := id hx4
            have hadd := add_st b _ _ _ ((i : Int), vo o i) w4 hs4 hvr
            rw [hL, show ((i : Int), vo o i).1 = (i : Int) from rfl, HE.out, hvo] at hadd
            clear hadv hg4 hb3 hs4 hx3
            go_wp2_with fail
            refine hadd.mono ?_
            rintro e w5 ⟨rfl, hs5, hg5⟩
            have hb5 := grown_above hb4 hg5 hb4.size hbb
            have hsum := fun W (hW : St W b (ol o (i + 1)) 10 i) => sumR_any b _ _ _ W hW.m hW.f.rg
            rw [hfs] at hsum
            clear hadd hg5 hb4 x0 x1 hx4
            have d1 : decide ((o : Int) ≤ (i : Int)) = true := decide_eq_true (by omega)
            have d2 : decide ((i : Int) - (o : Int) < 10) = true := decide_eq_true (by omega)
            obtain ⟨e1, e2, e3⟩ := E2.out
            go_wp2_with fail
            clear e1 e2 e3
            go_loopw [12, 11] (fun j s wr => ∃ (x : Nat) (J S : Int), x ≤ c ∧ j = .int .i64 J ∧ s = .int .i64 S ∧ Hid (J = ((a + x : Nat) : Int) ∧ S = from_ a x) ∧ wr = w5) (fun j _ _ => i + 1 - (intOf j).toNat)
            case atStart => exact ⟨0, (a : Int), 0, by omega, rfl, rfl, ⟨rfl, rfl⟩, rfl⟩
            case round =>
              obtain ⟨x, J, S, hx, rfl, rfl, hJS, rfl⟩ := hrel
              by_cases hlx : x < c
              · obtain ⟨J', S', g1, g2, g3, g4, g5⟩ := rnd i c a x J S e4 (by omega) hlx hJS.out
                go_wp2_with fail
                go_roundw
                case rel => exact ⟨x + 1, J', S', hlx, by rw [g3], by rw [g2], g4, trivial⟩
                case measure => rw [g3]; exact g5
              · obtain ⟨hdx, hf1, hf2, hr1⟩ := rndE i c a x J S e4 (by omega) (by omega) hJS.out
                go_wp2_with fail
                refine (hsum _ hs5).mono ?_
                rintro e w6 ⟨rfl, hb6⟩
                have e6 := E6.out
                go_wp2
                go_roundw
                clear e6
                case rel => exact ⟨i + 1, by omega, by go_num, hs5.later hb6, Below.chain hb5 hb6⟩
                case measure => simp [intOf]; omega
          · rw [if_neg (by omega)] at hfs
            go_wp2_with fail
            generalize w3.alloc (.cells #[.bool false, .int .i64 ((i : Int) * 1000000)] 31) = w3a at *
            refine hadv.mono ?_
            rintro e w4 ⟨rfl, hs4, hg4⟩
            have hx4 := hx3.kept hg4 (by simp; omega)
            have hb4 := grown_above hb3 hg4 hb3.size hbb
            obtain ⟨x0, x1, _, _⟩ := id hx4
            have hadd := add_st b _ _ _ ((i : Int), vo o i) w4 hs4 hvr
            rw [hL, show ((i : Int), vo o i).1 = (i : Int) from rfl, HE.out, hvo] at hadd
            clear hadv hg4 hb3 hs4 hx3
            go_wp2_with fail
            refine hadd.mono ?_
            rintro e w5 ⟨rfl, hs5, hg5⟩
            have hb5 := grown_above hb4 hg5 hb4.size hbb
            have hsum := fun W (hW : St W b (ol o (i + 1)) 10 i) => sumR_any b _ _ _ W hW.m hW.f.rg
            rw [hfs] at hsum
            clear hadd hg5 hb4 x0 x1 hx4
            have d1 : decide ((o : Int) ≤ (i : Int)) = true := decide_eq_true (by omega)
            have d2 : decide ((i : Int) - (o : Int) < 10) = false := decide_eq_false (by omega)
            obtain ⟨e1, e2, e3⟩ := E2.out
            go_wp2_with fail
            clear e1 e2 e3
            go_loopw [12, 11] (fun j s wr => ∃ (x : Nat) (J S : Int), x ≤ c ∧ j = .int .i64 J ∧ s = .int .i64 S ∧ Hid (J = ((a + x : Nat) : Int) ∧ S = from_ a x) ∧ wr = w5) (fun j _ _ => i + 1 - (intOf j).toNat)
            case atStart => exact ⟨0, (a : Int), 0, by omega, rfl, rfl, ⟨rfl, rfl⟩, rfl⟩
            case round =>
              obtain ⟨x, J, S, hx, rfl, rfl, hJS, rfl⟩ := hrel
              by_cases hlx : x < c
              · obtain ⟨J', S', g1, g2, g3, g4, g5⟩ := rnd i c a x J S e4 (by omega) hlx hJS.out
                go_wp2_with fail
                go_roundw
                case rel => exact ⟨x + 1, J', S', hlx, by rw [g3], by rw [g2], g4, trivial⟩
                case measure => rw [g3]; exact g5
              · obtain ⟨hdx, hf1, hf2, hr1⟩ := rndE i c a x J S e4 (by omega) (by omega) hJS.out
                rw [hf1] at hsum
                have hks := kn_of S (S * 1000000) hf2 hr1
                clear hf2
                go_wp2_with fail
                refine (hsum _ hs5).mono ?_
                rintro e w6 ⟨rfl, hb6⟩
                have hs6 := hs5.later hb6
                go_wp2_with fail
                refine (hsum _ hs6).mono ?_
                rintro e w7 ⟨rfl, hb7⟩
                have hs7 := hs6.later hb7
                go_wp2_with fail
                refine (hks _).mono ?_
                rintro e w8 ⟨rfl, hb8⟩
                have e6 := E6.out
                go_wp2
                go_roundw
                clear e6
                case rel => exact ⟨i + 1, by omega, by go_num, hs7.later hb8, Below.chain (Below.chain (Below.chain hb5 hb6) hb7) hb8⟩
                case measure => simp [intOf]; omega
    · have hd : decide ((i : Int) < (k : Int)) = false := decide_eq_false (by omega)
      go_wp2
      go_ret
      exact ⟨rfl, hb⟩
end Go.Proofs.Ytchopogodfghoaa
