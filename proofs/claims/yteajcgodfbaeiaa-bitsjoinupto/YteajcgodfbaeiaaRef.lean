/- The contracts of the document's own answers: Sum, Get, Put, Text, GetText of the reference. -/
import Derived.Test.YteajcgodfbaeiaaBack
import Derived.Lib.AppendStr
import Derived.Laws.AppendOwnNone
namespace Go.Proofs.Yteajcgodfbaeiaa
open Go.RowKit

theorem rsum_any (ao : Option Addr) (n cap : Nat) (l : List UInt8) (w : World) (hb : Bs w ao n cap l) :
    Calls Try.prog 13 #[.slice ao n cap] w fun e w' => e = .returned (.int .u32 (crc l)) ∧ w = w' := by
  obtain ⟨hl, hnc, hcm, hcell⟩ := hb
  unfold maxLen at hcm
  have HL : Hid (l.length = n) := hl
  clear hl
  go_enter Try.func13, Try.ntmps13
  go_wp2
  go_loop [3, 4] (fun r i => ∃ k : Nat, k ≤ n ∧ i = .int .i64 k ∧ r = .int .u32 (crcI (l.take k))) (fun _ i => n - (intOf i).toNat)
  case atStart => exact ⟨0, by omega, rfl, by rw [List.take_zero, ← crcI_nil]⟩
  case round =>
    obtain ⟨k, hk, rfl, rfl⟩ := hrel
    have hr : crcI (l.take k) < 4294967296 := crcI_lt _
    by_cases hlt : k < n
    · obtain ⟨b, off, rfl, hc⟩ := hcell (by omega)
      have hck := hc k hlt
      have HS : Hid (crcI (l.take (k + 1)) = shn 8 (crcI (l.take k) ^^^ (l.getD k 0).toNat)) := crcI_snoc (by rw [HL.out]; exact hlt)
      generalize crcI (l.take k) = r at *
      generalize l.getD k 0 = c at *
      have hx := xor_byte hr c
      have hc255 := c.toNat_lt
      have hxl : r ^^^ c.toNat < 4294967296 := xor_lt hr c
      generalize r ^^^ c.toNat = x at *
      clear hc hcell
      go_wp2
      go_loop [3, 5] (fun r i => ∃ k : Nat, k ≤ 8 ∧ i = .int .i64 k ∧ r = .int .u32 (shn k x)) (fun _ i => 8 - (intOf i).toNat)
      case atStart => exact ⟨0, by omega, rfl, rfl⟩
      case round =>
        obtain ⟨q, hq, rfl, rfl⟩ := hrel
        by_cases hq8 : q < 8
        · have hy : shn q x < 4294967296 := shn_lt q hxl
          have HQ : Hid (shn (q + 1) x = sh (shn q x)) := rfl
          generalize shn q x = y at *
          have hand := and_one hy
          have hxor := xor_poly hy
          have hcc : y % 2 = 0 ∨ y % 2 = 1 := by omega
          rcases hcc with hcc | hcc
          all_goals
            rw [hcc] at hand
            go_wp2
            go_round
            case rel => exact ⟨q + 1, by omega, by go_num, by rw [HQ.out, sh, hcc]; simp⟩
            case measure => simp [intOf]; omega
        · obtain rfl : q = 8 := by omega
          go_wp2
          go_round
          case rel => exact ⟨k + 1, by omega, by go_num, by rw [HS.out]⟩
          case measure => simp [intOf]; omega
    · obtain rfl : k = n := by omega
      have HT : Hid (crc l = flip (crcI (l.take k))) := by
        show crc l = _
        rw [List.take_of_length_le (by rw [HL.out]; omega)]
        rfl
      generalize crcI (l.take k) = r at *
      have hx := xor_all hr
      clear hcell
      go_wp2
      go_ret
      exact ⟨ret_int (by rw [HT.out]), rfl⟩
end Go.Proofs.Yteajcgodfbaeiaa
