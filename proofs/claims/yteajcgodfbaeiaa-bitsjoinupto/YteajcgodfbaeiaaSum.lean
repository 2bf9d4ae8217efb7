/- The contracts of Sum and number: what they read of bytes. -/
import Derived.Test.YteajcgodfbaeiaaLeaf
namespace Go.Proofs.Yteajcgodfbaeiaa
open Go.RowKit

theorem xor_byte {r : Nat} (hr : r < 4294967296) (c : UInt8) : bits BinOp.xor IntKind.u32 (r : Int) (c.toNat : Int) = ((r ^^^ c.toNat : Nat) : Int) :=
  u32_xor_nat r c.toNat hr (by have := c.toNat_lt; omega)
theorem xor_all {r : Nat} (hr : r < 4294967296) : bits BinOp.xor IntKind.u32 IntKind.u32.max (r : Int) = ((flip r : Nat) : Int) := by
  rw [show IntKind.u32.max = ((4294967295 : Nat) : Int) from by decide]
  exact u32_xor_nat 4294967295 r (by decide) hr

theorem pow_eq (k : Nat) : 2 ^ (8 * k) = 256 ^ k := by rw [Nat.pow_mul]
theorem pow_le {k : Nat} (hk : k < 8) : 256 * 256 ^ k ≤ 18446744073709551616 := by
  have h : 256 ^ (k + 1) ≤ 256 ^ 8 := Nat.pow_le_pow_right (by decide) (by omega)
  rw [Nat.pow_succ] at h
  omega
theorem or_step {k r : Nat} (hk : k < 8) (hr : r < 256 ^ k) (c : UInt8) :
    bits BinOp.or IntKind.u64 (r : Int) (IntKind.u64.wrap ((c.toNat : Int) * 2 ^ (8 * k))) = ((r + 256 ^ k * c.toNat : Nat) : Int) := by
  have hp := pow_le hk
  have hc := c.toNat_lt
  have e1 : ((c.toNat : Int) * 2 ^ (8 * k)) = ((256 ^ k * c.toNat : Nat) : Int) := by
    rw [Int.natCast_mul, Int.mul_comm]
    congr 1
    rw [← pow_eq]
    simp
  have hm : 256 ^ k * c.toNat + 256 ^ k ≤ 256 * 256 ^ k := by
    rw [← Nat.mul_succ, Nat.mul_comm 256]
    exact Nat.mul_le_mul_left _ (by omega)
  rw [e1]
  generalize hM : 256 ^ k * c.toNat = M at *
  have e2 : IntKind.u64.wrap (M : Int) = (M : Int) := by
    rw [IntKind.wrap_u64]
    omega
  rw [e2, u64_or_nat r M (by omega) (by omega), Nat.or_comm, ← hM, ← pow_eq, ← Nat.two_pow_add_eq_or_of_lt (by rw [pow_eq]; exact hr), Nat.add_comm]

theorem sum_any (ao : Option Addr) (n cap : Nat) (l : List UInt8) (w : World) (hb : Bs w ao n cap l) :
    Calls Try.prog 12 #[.slice ao n cap] w fun e w' => e = .returned (.int .u32 (crc l)) ∧ w = w' := by
  obtain ⟨hl, hnc, hcm, hcell⟩ := hb
  unfold maxLen at hcm
  have HL : Hid (l.length = n) := hl
  clear hl
  go_enter Try.func12, Try.ntmps12
  go_wp2
  go_loop [3, 8] (fun r i => ∃ k : Nat, k ≤ n ∧ i = .int .i64 k ∧ r = .int .u32 (crcI (l.take k))) (fun _ i => n - (intOf i).toNat)
  case atStart => exact ⟨0, by omega, rfl, by rw [List.take_zero, ← crcI_nil]⟩
  case round =>
    obtain ⟨k, hk, rfl, rfl⟩ := hrel
    have hr : crcI (l.take k) < 4294967296 := crcI_lt _
    by_cases hlt : k < n
    · obtain ⟨b, off, rfl, hc⟩ := hcell (by omega)
      have hck := hc k hlt
      have HS : Hid (crcI (l.take (k + 1)) = shn 8 (crcI (l.take k) ^^^ (l.getD k 0).toNat)) := crcI_snoc (by rw [HL.out]; exact hlt)
      generalize crcI (l.take k) = r at *
      generalize l.getD k 0 = c at *
      have hx := xor_byte hr c
      have hc255 := c.toNat_lt
      have hxl : r ^^^ c.toNat < 4294967296 := xor_lt hr c
      clear hc hcell
      go_wp2_with (go_at_call 23; refine (shift_any _ hxl _).mono ?_; rintro e w' ⟨rfl, rfl⟩)
      go_round
      case rel => exact ⟨k + 1, by omega, by go_num, by rw [HS.out]⟩
      case measure => simp [intOf]; omega
    · obtain rfl : k = n := by omega
      have HT : Hid (crc l = flip (crcI (l.take k))) := by
        show crc l = _
        rw [List.take_of_length_le (by rw [HL.out]; omega)]
        rfl
      generalize crcI (l.take k) = r at *
      have hx := xor_all hr
      clear hcell
      go_wp2
      go_ret
      exact ⟨ret_int (by rw [HT.out]), rfl⟩

theorem number_any (ao : Option Addr) (n cap : Nat) (l : List UInt8) (w : World) (hb : Bs w ao n cap l) (h8 : n ≤ 8) :
    Calls Try.prog 22 #[.slice ao n cap] w fun e w' => e = .returned (.int .u64 (num l)) ∧ w = w' := by
  obtain ⟨hl, hnc, hcm, hcell⟩ := hb
  unfold maxLen at hcm
  have HL : Hid (l.length = n) := hl
  clear hl
  go_enter Try.func22, Try.ntmps22
  go_wp2
  go_loop [3, 8] (fun r i => ∃ k : Nat, k ≤ n ∧ i = .int .i64 k ∧ r = .int .u64 (num (l.take k))) (fun _ i => n - (intOf i).toNat)
  case atStart => exact ⟨0, by omega, rfl, by simp [num]⟩
  case round =>
    obtain ⟨k, hk, rfl, rfl⟩ := hrel
    by_cases hlt : k < n
    · obtain ⟨b, off, rfl, hc⟩ := hcell (by omega)
      have hck := hc k hlt
      have HS : Hid (num (l.take (k + 1)) = num (l.take k) + 256 ^ k * (l.getD k 0).toNat) := num_snoc (by rw [HL.out]; exact hlt)
      have hr := num_take_lt l k
      generalize num (l.take k) = r at *
      generalize l.getD k 0 = c at *
      have hc255 := c.toNat_lt
      clear hc hcell
      have hor := or_step (show k < 8 by omega) hr c
      clear hr
      go_wp2
      go_round
      case rel => exact ⟨k + 1, by omega, by go_num, by rw [HS.out]; simp⟩
      case measure => simp [intOf]; omega
    · obtain rfl : k = n := by omega
      have HT : Hid (num l = num (l.take k)) := by
        show num l = _
        rw [List.take_of_length_le (by rw [HL.out]; omega)]
      clear hcell
      go_wp2
      go_ret
      exact ⟨ret_int (by rw [HT.out]), rfl⟩
end Go.Proofs.Yteajcgodfbaeiaa
