/- math/bits.Div64: the quotient. -/
import Derived.Test.YthcakiibkocheaaSum
import Derived.Test.YthcakiibkocheaaHalf
import Derived.Test.YthcakiibkocheaaShelf
import Derived.BigQuiet
import Derived.Deep.CutBlock
import Derived.Laws.Bits64b
namespace Go.Proofs.Ythcakiibkocheaa
open Go.RowKit

theorem below_drewN {B : Nat} {a w : World} (h : Below B a w) (k : Nat) : Below B a (w.drewN k) := ⟨h.os, h.tape, h.output, h.size, h.block⟩
set_option maxHeartbeats 1000000 in
theorem div_low (lo y : Nat) (w : World) (hl : lo < 18446744073709551616) (h0 : y ≠ 0) :
    Calls Try.prog 44 #[.int .u64 0, .int .u64 lo, .int .u64 y] w fun e w' => ∃ r : Int, e = .returned (.tuple #[.int .u64 ((lo / y : Nat) : Int), .int .u64 r]) ∧ Below w.heap.size w w' := by
  have h1 : ¬ (y : Int) = 0 := by omega
  have h2 : ¬ (y : Int) ≤ 0 := by omega
  have h3 : (0 : Int) < y := by omega
  have h4 : lo / y ≤ lo := Nat.div_le_self _ _
  have h5 : (lo : Int) / y = ((lo / y : Nat) : Int) := by simp
  generalize lo / y = q at *
  have h6 : IntKind.u64.wrap (q : Int) = q := by rw [IntKind.wrap_u64]; omega
  go_enter Try.func44, Try.ntmps44
  go_wp2_with fail
  go_quiet (fail)
  go_wp2
  go_ret2
  exact ⟨_, rfl, below_drewN (Below.refl _ _) _⟩

theorem wrap_nat (a : Nat) (h : a < 18446744073709551616) : IntKind.u64.wrap (a : Int) = a := by rw [IntKind.wrap_u64]; omega
theorem and_mask (a : Nat) (h : a < 18446744073709551616) : bits .and .u64 (a : Int) 4294967295 = ((a % 4294967296 : Nat) : Int) := by
  have h := bits_and_u64_nat a 4294967295 h (by omega)
  have e : a &&& 4294967295 = a % 4294967296 := Nat.and_two_pow_sub_one_eq_mod a 32
  rw [e] at h
  exact h
theorem cast_shift (a s : Nat) : (a : Int) * 2 ^ s = ((a * 2 ^ s : Nat) : Int) := by simp
/-- A word shifted up, and what comes in from the one below it. -/
theorem or_shift (hi lo s : Nat) (hs : s < 64) (hh : hi * 2 ^ s < 18446744073709551616) (hl : lo < 18446744073709551616) :
    bits .or .u64 ((hi * 2 ^ s : Nat) : Int) ((lo / 2 ^ (64 - s) : Nat) : Int) = ((hi * 2 ^ s + lo / 2 ^ (64 - s) : Nat) : Int) := by
  have hb : lo / 2 ^ (64 - s) < 2 ^ s := by
    rw [Nat.div_lt_iff_lt_mul (Nat.pos_of_ne_zero (by simp)), ← Nat.pow_add]
    have : s + (64 - s) = 64 := by omega
    rw [this]
    exact hl
  have hp : 2 ^ s < 18446744073709551616 := by
    have : 2 ^ s < 2 ^ 64 := Nat.pow_lt_pow_right (by omega) hs
    exact this
  rw [bits_or_u64_nat _ _ hh (by omega)]
  congr 1
  rw [Nat.mul_comm]
  exact (Nat.two_pow_add_eq_or_of_lt hb hi).symm

theorem join_words (c a b : Nat) (hB : b / 4294967296 * 4294967296 + b % 4294967296 = b) : (c + a) * (4294967296 * 4294967296) + b / 4294967296 * 4294967296 + b % 4294967296 = c * 18446744073709551616 + (a * 18446744073709551616 + b) := by
  rw [Nat.add_assoc, hB, Nat.add_mul, Nat.add_assoc]
/-- What the first rows of the division make. -/
theorem div_parts (hi lo y s : Nat) (hl : lo < 18446744073709551616) (hh : hi < y) (hs : s < 64) (h2 : 9223372036854775808 ≤ y * 2 ^ s) (h3 : y * 2 ^ s < 18446744073709551616) :
    ∃ Y Y1 Y0 U V V1 V0 : Nat, IntKind.u64.wrap ((y : Int) * 2 ^ s) = (Y : Int) ∧ (Y : Int) / 4294967296 = (Y1 : Int) ∧ bits .and .u64 (Y : Int) 4294967295 = (Y0 : Int) ∧
      bits .or .u64 (IntKind.u64.wrap ((hi : Int) * 2 ^ s)) ((lo : Int) / 2 ^ (64 - s)) = (U : Int) ∧ IntKind.u64.wrap ((lo : Int) * 2 ^ s) = (V : Int) ∧ (V : Int) / 4294967296 = (V1 : Int) ∧ bits .and .u64 (V : Int) 4294967295 = (V0 : Int) ∧
      Y = Y1 * 4294967296 + Y0 ∧ 2147483648 ≤ Y1 ∧ Y1 < 4294967296 ∧ Y0 < 4294967296 ∧ V1 < 4294967296 ∧ V0 < 4294967296 ∧ U < Y1 * 4294967296 + Y0 ∧
      (U * (4294967296 * 4294967296) + V1 * 4294967296 + V0) / (Y1 * 4294967296 + Y0) = (hi * 18446744073709551616 + lo) / y := by
  have hyp : hi * 2 ^ s < 18446744073709551616 := Nat.lt_of_le_of_lt (Nat.mul_le_mul_right _ (Nat.le_of_lt hh)) h3
  have hpp : 0 < 2 ^ s := Nat.pos_of_ne_zero (by simp)
  have hpq : 0 < 2 ^ (64 - s) := Nat.pos_of_ne_zero (by simp)
  have hpow : 2 ^ s * 2 ^ (64 - s) = 18446744073709551616 := by
    rw [← Nat.pow_add]
    have : s + (64 - s) = 64 := by omega
    rw [this]
  refine ⟨y * 2 ^ s, y * 2 ^ s / 4294967296, y * 2 ^ s % 4294967296, hi * 2 ^ s + lo / 2 ^ (64 - s), lo * 2 ^ s % 18446744073709551616, lo * 2 ^ s % 18446744073709551616 / 4294967296, lo * 2 ^ s % 18446744073709551616 % 4294967296, ?_, ?_, ?_, ?_, ?_, ?_, ?_, ?_, ?_, ?_, ?_, ?_, ?_, ?_, ?_⟩
  · rw [cast_shift, wrap_nat _ h3]
  · omega
  · exact and_mask _ h3
  · rw [cast_shift, wrap_nat _ hyp]
    have : (lo : Int) / 2 ^ (64 - s) = ((lo / 2 ^ (64 - s) : Nat) : Int) := by simp
    rw [this]
    exact or_shift hi lo s hs hyp hl
  · rw [cast_shift, IntKind.wrap_u64]
    omega
  · omega
  · exact and_mask _ (by omega)
  · omega
  · omega
  · omega
  · omega
  · omega
  · omega
  · have e : y * 2 ^ s / 4294967296 * 4294967296 + y * 2 ^ s % 4294967296 = y * 2 ^ s := by omega
    rw [e]
    have hb : lo / 2 ^ (64 - s) < 2 ^ s := by
      rw [Nat.div_lt_iff_lt_mul hpq, hpow]
      exact hl
    have : (hi + 1) * 2 ^ s ≤ y * 2 ^ s := Nat.mul_le_mul_right _ hh
    rw [Nat.add_mul, Nat.one_mul] at this
    omega
  · have e : y * 2 ^ s / 4294967296 * 4294967296 + y * 2 ^ s % 4294967296 = y * 2 ^ s := by omega
    rw [e]
    have e2 : (hi * 2 ^ s + lo / 2 ^ (64 - s)) * (4294967296 * 4294967296) + lo * 2 ^ s % 18446744073709551616 / 4294967296 * 4294967296 + lo * 2 ^ s % 18446744073709551616 % 4294967296 = (hi * 18446744073709551616 + lo) * 2 ^ s := by
      have d := Nat.div_add_mod lo (2 ^ (64 - s))
      have f : lo * 2 ^ s = lo / 2 ^ (64 - s) * 18446744073709551616 + lo % 2 ^ (64 - s) * 2 ^ s := by
        rw [← hpow]
        conv => lhs; rw [← d]
        rw [Nat.add_mul, Nat.mul_comm (2 ^ (64 - s)) (lo / 2 ^ (64 - s)), Nat.mul_assoc, Nat.mul_comm (2 ^ (64 - s)) (2 ^ s)]
      have g : lo % 2 ^ (64 - s) * 2 ^ s < 18446744073709551616 := by
        rw [← hpow, Nat.mul_comm (2 ^ s)]
        exact (Nat.mul_lt_mul_right hpp).2 (Nat.mod_lt _ hpq)
      rw [Nat.add_mul (hi * 18446744073709551616) lo, f]
      generalize lo / 2 ^ (64 - s) = a at *
      generalize lo % 2 ^ (64 - s) * 2 ^ s = b at *
      have hX : (a * 18446744073709551616 + b) % 18446744073709551616 = b := by omega
      rw [hX]
      have k : hi * 18446744073709551616 * 2 ^ s = hi * 2 ^ s * 18446744073709551616 := Nat.mul_right_comm _ _ _
      rw [k]
      generalize hi * 2 ^ s = c at *
      have hB : b / 4294967296 * 4294967296 + b % 4294967296 = b := Nat.div_add_mod' b 4294967296
      exact join_words c a b hB
    rw [e2, Nat.mul_div_mul_right _ _ hpp]

theorem int_eq {k : IntKind} {a b : Int} (h : a = b) : Value.int k a = Value.int k b := by rw [h]
/-- The beginning of a step: the first guess and what it leaves. -/
theorem half_begin {u d y1 y0 : Nat} (p2 : 2147483648 ≤ y1) (p3 : y1 < 4294967296) (p4 : y0 < 4294967296) (p5 : d < 4294967296) (p7 : u < y1 * 4294967296 + y0) :
    ∃ q A r : Nat, (u : Int) / y1 = (q : Int) ∧ IntKind.u64.wrap (q : Int) = q ∧ IntKind.u64.wrap ((q : Int) * y1) = (A : Int) ∧ IntKind.u64.wrap ((u : Int) - A) = (r : Int) ∧ Hid (HalfInv u d y1 y0 q r) := by
  have i1 := HalfInv.start p2 p3 p4 p5 p7
  have h := Nat.div_mul_le_self u y1
  refine ⟨u / y1, u / y1 * y1, u - u / y1 * y1, by simp, wrap_nat _ ?_, ?_, ?_, i1⟩
  · have := i1.2.2.2
    omega
  · rw [← Int.natCast_mul, wrap_nat _ (by omega)]
  · rw [IntKind.wrap_u64]
    omega
/-- What is left behind a step. -/
theorem half_left {u d y : Nat} (hu : u < y) (hy : y < 18446744073709551616) :
    ∃ X1 X2 X3 R : Nat, IntKind.u64.wrap ((u : Int) * 4294967296) = (X1 : Int) ∧ IntKind.u64.wrap ((X1 : Int) + d) = (X2 : Int) ∧ IntKind.u64.wrap ((((u * 4294967296 + d) / y : Nat) : Int) * y) = (X3 : Int) ∧ IntKind.u64.wrap ((X2 : Int) - X3) = (R : Int) ∧ R = u * 4294967296 + d - (u * 4294967296 + d) / y * y ∧ R < y := by
  have hr := rest_lt (u * 4294967296 + d) y (by omega)
  have hl := Nat.div_mul_le_self (u * 4294967296 + d) y
  generalize (u * 4294967296 + d) / y = T at *
  have e : ((T : Nat) : Int) * y = ((T * y : Nat) : Int) := (Int.natCast_mul T y).symm
  rw [e]
  generalize T * y = P at *
  refine ⟨u * 4294967296 % 18446744073709551616, (u * 4294967296 % 18446744073709551616 + d) % 18446744073709551616, P % 18446744073709551616, u * 4294967296 + d - P, ?_, ?_, ?_, ?_, rfl, hr⟩
  · rw [IntKind.wrap_u64]; omega
  · rw [IntKind.wrap_u64]; omega
  · rw [IntKind.wrap_u64]; omega
  · rw [IntKind.wrap_u64]; omega

set_option maxHeartbeats 4000000 in
theorem div_high (hi lo y : Nat) (w : World) (hl : lo < 18446744073709551616) (hy : y < 18446744073709551616) (hh : hi < y) (h0 : hi ≠ 0) :
    Calls Try.prog 44 #[.int .u64 hi, .int .u64 lo, .int .u64 y] w fun e w' => ∃ r : Int, e = .returned (.tuple #[.int .u64 (((hi * 18446744073709551616 + lo) / y : Nat) : Int), .int .u64 r]) ∧ Below w.heap.size w w' := by
  have h1 : ¬ (y : Int) = 0 := by omega
  have h2 : ¬ (y : Int) ≤ hi := by omega
  have h3 : ¬ (hi : Int) = 0 := by omega
  obtain ⟨s, hs, hs1, hs2, hs3⟩ := top_shift (by omega : y ≠ 0) hy
  obtain ⟨Y, Y1, Y0, U, V, V1, V0, e1, e2, e3, e4, e5, e6, e7, p1, p2, p3, p4, p5, p6, p7, p8⟩ := div_parts hi lo y s hl hh hs1 hs2 hs3
  have iY1 : ¬ (Y1 : Int) = 0 := by omega
  obtain ⟨q1, A1, r1, a1, a2, a3, a4, I1⟩ := half_begin p2 p3 p4 p5 p7
  obtain ⟨X1, X2, X3, R, x1, x2, x3, x4, x5, x6⟩ := half_left (d := V1) (y := Y) (by omega : U < Y) (by omega)
  have p9 : R < Y1 * 4294967296 + Y0 := by omega
  obtain ⟨q2, A2, r2, b1, b2, b3, b4, I2⟩ := half_begin p2 p3 p4 p6 p9
  have t1 := half_digit (y := Y1 * 4294967296 + Y0) p5 p7
  have t2 := half_digit (y := Y1 * 4294967296 + Y0) p6 p9
  rw [p1] at x3 x5
  have TT : Hid _ := two_steps 4294967296 U V1 V0 (Y1 * 4294967296 + Y0) (by omega) _ _ R rfl x5 rfl
  rw [p8] at TT
  obtain ⟨T1, hT1⟩ : ∃ T1, (U * 4294967296 + V1) / (Y1 * 4294967296 + Y0) = T1 := ⟨_, rfl⟩
  obtain ⟨T2, hT2⟩ : ∃ T2, (R * 4294967296 + V0) / (Y1 * 4294967296 + Y0) = T2 := ⟨_, rfl⟩
  rw [hT1] at t1 x3 TT
  rw [hT2] at t2 TT
  rw [← p1] at x3
  have HT1 : Hid _ := hT1
  have HT2 : Hid _ := hT2
  have HS : Hid _ := hs
  have P7 : Hid _ := p7
  have P9 : Hid _ := p9
  obtain ⟨Z1, z1, z1'⟩ : ∃ Z1 : Nat, IntKind.u64.wrap ((T1 : Int) * 4294967296) = (Z1 : Int) ∧ Z1 = T1 * 4294967296 := ⟨_, by rw [IntKind.wrap_u64]; omega, rfl⟩
  obtain ⟨Z2, z2, z2'⟩ : ∃ Z2 : Nat, IntKind.u64.wrap ((Z1 : Int) + T2) = (Z2 : Int) ∧ Z2 = T1 * 4294967296 + T2 := ⟨T1 * 4294967296 + T2, by rw [IntKind.wrap_u64]; omega, rfl⟩
  rw [← TT.out, ← z2']
  clear hs hs2 hs3 p1 p8 p7 p9 hT1 hT2 x5 x6 z1' z2'
  go_enter Try.func44, Try.ntmps44
  go_upto_block 0 with (go_at_call 53; refine (Try.bits_LeadingZeros64 _ _ (by omega) (by omega)).mono ?_; rintro e w' ⟨rfl, rfl⟩; rw [Int.toNat_natCast, HS.out])
  go_cut [15, 16] from 67 to 85 (fun a b wx => a = .int .u64 T1 ∧ wx = w')
  case first =>
    go_wp2_with fail
    go_loop [15, 16] (fun a b => ∃ q r : Nat, a = .int .u64 q ∧ b = .int .u64 r ∧ HalfInv U V1 Y1 Y0 q r) (fun a _ => (intOf a).toNat)
    case atStart => exact ⟨_, _, rfl, rfl, I1.out⟩
    case round =>
      obtain ⟨q, r, rfl, rfl, hi1⟩ := hrel
      have HI : Hid (HalfInv U V1 Y1 Y0 q r) := hi1
      obtain ⟨_, _, r1, r2⟩ := hi1
      by_cases c1 : 4294967296 ≤ q
      · have c1' : (4294967296 : Int) ≤ q := by omega
        have hd := HalfInv.down HI.out p5 P7.out (Or.inl c1)
        by_cases c2 : 4294967296 ≤ r + Y1
        · have c2' : (4294967296 : Int) ≤ (r : Int) + Y1 := by omega
          have hz := HalfInv.broke (by omega) p4 hd.2.1 hd.2.2.1 hd.2.2.2 c2
          rw [HT1.out] at hz
          clear hd
          go_wp2_with fail
          go_meet
          exact ⟨int_eq (by omega), rfl⟩
        · have c2' : ¬ (4294967296 : Int) ≤ (r : Int) + Y1 := by omega
          have hz : Hid (HalfInv U V1 Y1 Y0 (q - 1) (r + Y1)) := ⟨hd.2.1, hd.2.2.1, by omega, by omega⟩
          clear hd
          go_wp2_with fail
          go_round
          case rel => exact ⟨q - 1, r + Y1, int_eq (by omega), int_eq (by omega), hz.out⟩
          case measure => simp [intOf]; omega
      · have c1' : ¬ (4294967296 : Int) ≤ q := by omega
        have hC : q * Y0 < 18446744073709551616 := by
          have : q * Y0 ≤ 4294967295 * 4294967295 := Nat.mul_le_mul (by omega) (by omega)
          omega
        have hCw : IntKind.u64.wrap ((q : Int) * Y0) = ((q * Y0 : Nat) : Int) := by rw [← Int.natCast_mul, wrap_nat _ hC]
        by_cases c3 : 4294967296 * r + V1 < q * Y0
        · have hd := HalfInv.down HI.out p5 P7.out (Or.inr c3)
          have c3' : 4294967296 * (r : Int) + V1 < ((q * Y0 : Nat) : Int) := by omega
          have HC : Hid _ := c3
          clear c3 hC
          generalize q * Y0 = C at *
          by_cases c2 : 4294967296 ≤ r + Y1
          · have c2' : (4294967296 : Int) ≤ (r : Int) + Y1 := by omega
            have hz := HalfInv.broke (by omega) p4 hd.2.1 hd.2.2.1 hd.2.2.2 c2
            have hq1 := hd.1
            rw [HT1.out] at hz
            clear hd
            go_wp2_with fail
            go_meet
            exact ⟨int_eq (by omega), rfl⟩
          · have c2' : ¬ (4294967296 : Int) ≤ (r : Int) + Y1 := by omega
            have hz : Hid (HalfInv U V1 Y1 Y0 (q - 1) (r + Y1)) := ⟨hd.2.1, hd.2.2.1, by omega, by omega⟩
            have hq1 := hd.1
            clear hd
            go_wp2_with fail
            go_round
            case rel => exact ⟨q - 1, r + Y1, int_eq (by omega), int_eq (by omega), hz.out⟩
            case measure => simp [intOf]; omega
        · have hz := HalfInv.stop HI.out (by omega) (by omega)
          rw [HT1.out] at hz
          have Hz : Hid _ := hz
          have c3' : ((q * Y0 : Nat) : Int) ≤ 4294967296 * (r : Int) + V1 := by omega
          clear c3 hC hz
          generalize q * Y0 = C at *
          go_wp2_with fail
          go_meet
          exact ⟨by rw [Hz.out], rfl⟩
  case rest =>
    obtain ⟨rfl, rfl⟩ := hcut
    go_upto_block 2 with fail
    go_cut [18, 16] from 102 to 120 (fun a b wx => a = .int .u64 T2 ∧ wx = wc)
    case first =>
      go_wp2_with fail
      go_loop [18, 16] (fun a b => ∃ q r : Nat, a = .int .u64 q ∧ b = .int .u64 r ∧ HalfInv R V0 Y1 Y0 q r) (fun a _ => (intOf a).toNat)
      case atStart => exact ⟨_, _, rfl, rfl, I2.out⟩
      case round =>
        obtain ⟨q, r, rfl, rfl, hi1⟩ := hrel
        have HI : Hid (HalfInv R V0 Y1 Y0 q r) := hi1
        obtain ⟨_, _, r1, r2⟩ := hi1
        by_cases c1 : 4294967296 ≤ q
        · have c1' : (4294967296 : Int) ≤ q := by omega
          have hd := HalfInv.down HI.out p6 P9.out (Or.inl c1)
          by_cases c2 : 4294967296 ≤ r + Y1
          · have c2' : (4294967296 : Int) ≤ (r : Int) + Y1 := by omega
            have hz := HalfInv.broke (by omega) p4 hd.2.1 hd.2.2.1 hd.2.2.2 c2
            rw [HT2.out] at hz
            clear hd
            go_wp2_with fail
            go_meet
            exact ⟨int_eq (by omega), rfl⟩
          · have c2' : ¬ (4294967296 : Int) ≤ (r : Int) + Y1 := by omega
            have hz : Hid (HalfInv R V0 Y1 Y0 (q - 1) (r + Y1)) := ⟨hd.2.1, hd.2.2.1, by omega, by omega⟩
            clear hd
            go_wp2_with fail
            go_round
            case rel => exact ⟨q - 1, r + Y1, int_eq (by omega), int_eq (by omega), hz.out⟩
            case measure => simp [intOf]; omega
        · have c1' : ¬ (4294967296 : Int) ≤ q := by omega
          have hC : q * Y0 < 18446744073709551616 := by
            have : q * Y0 ≤ 4294967295 * 4294967295 := Nat.mul_le_mul (by omega) (by omega)
            omega
          have hCw : IntKind.u64.wrap ((q : Int) * Y0) = ((q * Y0 : Nat) : Int) := by rw [← Int.natCast_mul, wrap_nat _ hC]
          by_cases c3 : 4294967296 * r + V0 < q * Y0
          · have hd := HalfInv.down HI.out p6 P9.out (Or.inr c3)
            have c3' : 4294967296 * (r : Int) + V0 < ((q * Y0 : Nat) : Int) := by omega
            have HC : Hid _ := c3
            clear c3 hC
            generalize q * Y0 = C at *
            by_cases c2 : 4294967296 ≤ r + Y1
            · have c2' : (4294967296 : Int) ≤ (r : Int) + Y1 := by omega
              have hz := HalfInv.broke (by omega) p4 hd.2.1 hd.2.2.1 hd.2.2.2 c2
              have hq1 := hd.1
              rw [HT2.out] at hz
              clear hd
              go_wp2_with fail
              go_meet
              exact ⟨int_eq (by omega), rfl⟩
            · have c2' : ¬ (4294967296 : Int) ≤ (r : Int) + Y1 := by omega
              have hz : Hid (HalfInv R V0 Y1 Y0 (q - 1) (r + Y1)) := ⟨hd.2.1, hd.2.2.1, by omega, by omega⟩
              have hq1 := hd.1
              clear hd
              go_wp2_with fail
              go_round
              case rel => exact ⟨q - 1, r + Y1, int_eq (by omega), int_eq (by omega), hz.out⟩
              case measure => simp [intOf]; omega
          · have hz := HalfInv.stop HI.out (by omega) (by omega)
            rw [HT2.out] at hz
            have Hz : Hid _ := hz
            have c3' : ((q * Y0 : Nat) : Int) ≤ 4294967296 * (r : Int) + V0 := by omega
            clear c3 hC hz
            generalize q * Y0 = C at *
            go_wp2_with fail
            go_meet
            exact ⟨by rw [Hz.out], rfl⟩
    case rest =>
      obtain ⟨rfl, rfl⟩ := hcut
      go_wp2
      go_ret2
      exact ⟨_, rfl, Below.refl _ _⟩
end Go.Proofs.Ythcakiibkocheaa
