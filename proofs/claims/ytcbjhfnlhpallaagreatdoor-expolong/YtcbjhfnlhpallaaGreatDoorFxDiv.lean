
/- math/bits.Div64: the quotient. -/
import Derived.Test.YtcbjhfnlhpallaaGreatDoorFxSum
import Derived.Test.YtcbjhfnlhpallaaGreatDoorFxHalf
import Derived.Test.YtcbjhfnlhpallaaGreatDoorFxShelf
import Derived.BigQuiet
import Derived.Deep.CutBlock
import Derived.Laws.Bits64b
namespace Go.Proofs.YtcbjhfnlhpallaaGreatDoor.Fx
open Go.RowKit

theorem below_drewN {B : Nat} {a w : World} (h : Below B a w) (k : Nat) : Below B a (w.drewN k) := ⟨h.os, h.tape, h.output, h.size, h.block⟩
theorem wrap_nat (a : Nat) (h : a < 18446744073709551616) : IntKind.u64.wrap (a : Int) = a := by rw [IntKind.wrap_u64]; omega
theorem and_mask (a : Nat) (h : a < 18446744073709551616) : bits .and .u64 (a : Int) 4294967295 = ((a % 4294967296 : Nat) : Int) := by
  have h := bits_and_u64_nat a 4294967295 h (by omega)
  have e : a &&& 4294967295 = a % 4294967296 := Nat.and_two_pow_sub_one_eq_mod a 32
  rw [e] at h
  exact h
theorem cast_shift (a s : Nat) : (a : Int) * 2 ^ s = ((a * 2 ^ s : Nat) : Int) := by simp
/-- A word shifted up, and what comes in from the one below it. -/
theorem or_shift (hi lo s : Nat) (hs : s < 64) (hh : hi * 2 ^ s < 18446744073709551616) (hl : lo < 18446744073709551616) :
    bits .or .u64 ((hi * 2 ^ s : Nat) : Int) ((lo / 2 ^ (64 - s) : Nat) : Int) = ((hi * 2 ^ s + lo / 2 ^ (64 - s) : Nat) : Int) := by
  have hb : lo / 2 ^ (64 - s) < 2 ^ s := by
    rw [Nat.div_lt_iff_lt_mul (Nat.pos_of_ne_zero (by simp)), ← Nat.pow_add]
    have : s + (64 - s) = 64 := by omega
    rw [this]
    exact hl
  have hp : 2 ^ s < 18446744073709551616 := by
    have : 2 ^ s < 2 ^ 64 := Nat.pow_lt_pow_right (by omega) hs
    exact this
  rw [bits_or_u64_nat _ _ hh (by omega)]
  congr 1
  rw [Nat.mul_comm]
  exact (Nat.two_pow_add_eq_or_of_lt hb hi).symm

theorem join_words (c a b : Nat) (hB : b / 4294967296 * 4294967296 + b % 4294967296 = b) : (c + a) * (4294967296 * 4294967296) + b / 4294967296 * 4294967296 + b % 4294967296 = c * 18446744073709551616 + (a * 18446744073709551616 + b) := by
  rw [Nat.add_assoc, hB, Nat.add_mul, Nat.add_assoc]
/-- What the first rows of the division make. -/
theorem div_parts (hi lo y s : Nat) (hl : lo < 18446744073709551616) (hh : hi < y) (hs : s < 64) (h2 : 9223372036854775808 ≤ y * 2 ^ s) (h3 : y * 2 ^ s < 18446744073709551616) :
    ∃ Y Y1 Y0 U V V1 V0 : Nat, IntKind.u64.wrap ((y : Int) * 2 ^ s) = (Y : Int) ∧ (Y : Int) / 4294967296 = (Y1 : Int) ∧ bits .and .u64 (Y : Int) 4294967295 = (Y0 : Int) ∧
      bits .or .u64 (IntKind.u64.wrap ((hi : Int) * 2 ^ s)) ((lo : Int) / 2 ^ (64 - s)) = (U : Int) ∧ IntKind.u64.wrap ((lo : Int) * 2 ^ s) = (V : Int) ∧ (V : Int) / 4294967296 = (V1 : Int) ∧ bits .and .u64 (V : Int) 4294967295 = (V0 : Int) ∧
      Y = Y1 * 4294967296 + Y0 ∧ 2147483648 ≤ Y1 ∧ Y1 < 4294967296 ∧ Y0 < 4294967296 ∧ V1 < 4294967296 ∧ V0 < 4294967296 ∧ U < Y1 * 4294967296 + Y0 ∧
      (U * (4294967296 * 4294967296) + V1 * 4294967296 + V0) / (Y1 * 4294967296 + Y0) = (hi * 18446744073709551616 + lo) / y := by
  have hyp : hi * 2 ^ s < 18446744073709551616 := Nat.lt_of_le_of_lt (Nat.mul_le_mul_right _ (Nat.le_of_lt hh)) h3
  have hpp : 0 < 2 ^ s := Nat.pos_of_ne_zero (by simp)
  have hpq : 0 < 2 ^ (64 - s) := Nat.pos_of_ne_zero (by simp)
  have hpow : 2 ^ s * 2 ^ (64 - s) = 18446744073709551616 := by
    rw [← Nat.pow_add]
    have : s + (64 - s) = 64 := by omega
    rw [this]
  refine ⟨y * 2 ^ s, y * 2 ^ s / 4294967296, y * 2 ^ s % 4294967296, hi * 2 ^ s + lo / 2 ^ (64 - s), lo * 2 ^ s % 18446744073709551616, lo * 2 ^ s % 18446744073709551616 / 4294967296, lo * 2 ^ s % 18446744073709551616 % 4294967296, ?_, ?_, ?_, ?_, ?_, ?_, ?_, ?_, ?_, ?_, ?_, ?_, ?_, ?_, ?_⟩
  · rw [cast_shift, wrap_nat _ h3]
  · omega
  · exact and_mask _ h3
  · rw [cast_shift, wrap_nat _ hyp]
    have : (lo : Int) / 2 ^ (64 - s) = ((lo / 2 ^ (64 - s) : Nat) : Int) := by simp
    rw [this]
    exact or_shift hi lo s hs hyp hl
  · rw [cast_shift, IntKind.wrap_u64]
    omega
  · omega
  · exact and_mask _ (by omega)
  · omega
  · omega
  · omega
  · omega
  · omega
  · omega
  · have e : y * 2 ^ s / 4294967296 * 4294967296 + y * 2 ^ s % 4294967296 = y * 2 ^ s := by omega
    rw [e]
    have hb : lo / 2 ^ (64 - s) < 2 ^ s := by
      rw [Nat.div_lt_iff_lt_mul hpq, hpow]
      exact hl
    have : (hi + 1) * 2 ^ s ≤ y * 2 ^ s := Nat.mul_le_mul_right _ hh
    rw [Nat.add_mul, Nat.one_mul] at this
    omega
  · have e : y * 2 ^ s / 4294967296 * 4294967296 + y * 2 ^ s % 4294967296 = y * 2 ^ s := by omega
    rw [e]
    have e2 : (hi * 2 ^ s + lo / 2 ^ (64 - s)) * (4294967296 * 4294967296) + lo * 2 ^ s % 18446744073709551616 / 4294967296 * 4294967296 + lo * 2 ^ s % 18446744073709551616 % 4294967296 = (hi * 18446744073709551616 + lo) * 2 ^ s := by
      have d := Nat.div_add_mod lo (2 ^ (64 - s))
      have f : lo * 2 ^ s = lo / 2 ^ (64 - s) * 18446744073709551616 + lo % 2 ^ (64 - s) * 2 ^ s := by
        rw [← hpow]
        conv => lhs; rw [← d]
        rw [Nat.add_mul, Nat.mul_comm (2 ^ (64 - s)) (lo / 2 ^ (64 - s)), Nat.mul_assoc, Nat.mul_comm (2 ^ (64 - s)) (2 ^ s)]
      have g : lo % 2 ^ (64 - s) * 2 ^ s < 18446744073709551616 := by
        rw [← hpow, Nat.mul_comm (2 ^ s)]
        exact (Nat.mul_lt_mul_right hpp).2 (Nat.mod_lt _ hpq)
      rw [Nat.add_mul (hi * 18446744073709551616) lo, f]
      generalize lo / 2 ^ (64 - s) = a at *
      generalize lo % 2 ^ (64 - s) * 2 ^ s = b at *
      have hX : (a * 18446744073709551616 + b) % 18446744073709551616 = b := by omega
      rw [hX]
      have k : hi * 18446744073709551616 * 2 ^ s = hi * 2 ^ s * 18446744073709551616 := Nat.mul_right_comm _ _ _
      rw [k]
      generalize hi * 2 ^ s = c at *
      have hB : b / 4294967296 * 4294967296 + b % 4294967296 = b := Nat.div_add_mod' b 4294967296
      exact join_words c a b hB
    rw [e2, Nat.mul_div_mul_right _ _ hpp]

theorem int_eq {k : IntKind} {a b : Int} (h : a = b) : Value.int k a = Value.int k b := by rw [h]
/-- The beginning of a step: the first guess and what it leaves. -/
theorem half_begin {u d y1 y0 : Nat} (p2 : 2147483648 ≤ y1) (p3 : y1 < 4294967296) (p4 : y0 < 4294967296) (p5 : d < 4294967296) (p7 : u < y1 * 4294967296 + y0) :
    ∃ q A r : Nat, (u : Int) / y1 = (q : Int) ∧ IntKind.u64.wrap (q : Int) = q ∧ IntKind.u64.wrap ((q : Int) * y1) = (A : Int) ∧ IntKind.u64.wrap ((u : Int) - A) = (r : Int) ∧ Hid (HalfInv u d y1 y0 q r) := by
  have i1 := HalfInv.start p2 p3 p4 p5 p7
  have h := Nat.div_mul_le_self u y1
  refine ⟨u / y1, u / y1 * y1, u - u / y1 * y1, by simp, wrap_nat _ ?_, ?_, ?_, i1⟩
  · have := i1.2.2.2
    omega
  · rw [← Int.natCast_mul, wrap_nat _ (by omega)]
  · rw [IntKind.wrap_u64]
    omega
/-- What is left behind a step. -/
theorem half_left {u d y : Nat} (hu : u < y) (hy : y < 18446744073709551616) :
    ∃ X1 X2 X3 R : Nat, IntKind.u64.wrap ((u : Int) * 4294967296) = (X1 : Int) ∧ IntKind.u64.wrap ((X1 : Int) + d) = (X2 : Int) ∧ IntKind.u64.wrap ((((u * 4294967296 + d) / y : Nat) : Int) * y) = (X3 : Int) ∧ IntKind.u64.wrap ((X2 : Int) - X3) = (R : Int) ∧ R = u * 4294967296 + d - (u * 4294967296 + d) / y * y ∧ R < y := by
  have hr := rest_lt (u * 4294967296 + d) y (by omega)
  have hl := Nat.div_mul_le_self (u * 4294967296 + d) y
  generalize (u * 4294967296 + d) / y = T at *
  have e : ((T : Nat) : Int) * y = ((T * y : Nat) : Int) := (Int.natCast_mul T y).symm
  rw [e]
  generalize T * y = P at *
  refine ⟨u * 4294967296 % 18446744073709551616, (u * 4294967296 % 18446744073709551616 + d) % 18446744073709551616, P % 18446744073709551616, u * 4294967296 + d - P, ?_, ?_, ?_, ?_, rfl, hr⟩
  · rw [IntKind.wrap_u64]; omega
  · rw [IntKind.wrap_u64]; omega
  · rw [IntKind.wrap_u64]; omega
  · rw [IntKind.wrap_u64]; omega

end Go.Proofs.YtcbjhfnlhpallaaGreatDoor.Fx
