/- The contracts of the leaves: held, shiftOut, Sum, number: each for every argument. -/
import Derived.Test.YteajcgodfbaeiaaRows
import Derived.Test.YteajcgodfbaeiaaPlain
import Derived.WalkKit
import Derived.WalkSpells
import Derived.WalkLawsBesides
namespace Go.Proofs.Yteajcgodfbaeiaa
open Go.RowKit

/-- A slice of bytes that reads as l. -/
def Bs (w : World) (ao : Option Addr) (n cap : Nat) (l : List UInt8) : Prop :=
  l.length = n ∧ n ≤ cap ∧ cap ≤ maxLen ∧ (0 < cap → ∃ b off, ao = some ⟨b, off, none⟩ ∧ ∀ j, j < n → w.cell? ⟨b, off + j, none⟩ = some (.int .u8 (l.getD j 0).toNat))

theorem ret_int {k : IntKind} {a b : Int} (h : a = b) : Ending.returned (.int k a) = .returned (.int k b) := by rw [h]

def held (n : Int) : Nat := (min (max n 0) 8).toNat
theorem held_le (n : Int) : held n ≤ 8 := by unfold held; omega
theorem held_any (n : Int) (w : World) : Calls Try.prog 21 #[.int .i64 n] w fun e w' => e = .returned (.int .i64 (held n)) ∧ w = w' := by
  unfold held
  by_cases h0 : n < 0
  · go_enter Try.func21, Try.ntmps21
    go_wp2
    go_ret
    exact ⟨ret_int (by omega), rfl⟩
  · by_cases h8 : 8 < n
    · go_enter Try.func21, Try.ntmps21
      go_wp2
      go_ret
      exact ⟨ret_int (by omega), rfl⟩
    · go_enter Try.func21, Try.ntmps21
      go_wp2
      go_ret
      exact ⟨ret_int (by omega), rfl⟩

theorem and_one {y : Nat} (hy : y < 4294967296) : bits BinOp.and IntKind.u32 (y : Int) 1 = ((y % 2 : Nat) : Int) := by
  have := u32_and_nat y 1 hy (by decide)
  rw [Nat.and_one_is_mod] at this
  exact this
theorem xor_poly {y : Nat} (hy : y < 4294967296) : bits BinOp.xor IntKind.u32 ((y : Int) / 2) 3988292384 = ((y / 2 ^^^ 3988292384 : Nat) : Int) := by
  have := u32_xor_nat (y / 2) 3988292384 (by omega) (by decide)
  simpa using this

theorem shift_any (x : Nat) (hx : x < 4294967296) (w : World) : Calls Try.prog 23 #[.int .u32 x] w fun e w' => e = .returned (.int .u32 (shn 8 x)) ∧ w = w' := by
  go_enter Try.func23, Try.ntmps23
  go_wp2
  go_loop [0, 4] (fun r i => ∃ k : Nat, k ≤ 8 ∧ i = .int .i64 k ∧ r = .int .u32 (shn k x)) (fun _ i => 8 - (intOf i).toNat)
  case atStart => exact ⟨0, by omega, rfl, rfl⟩
  case round =>
    obtain ⟨k, hk, rfl, rfl⟩ := hrel
    by_cases hlt : k < 8
    · have hy : shn k x < 4294967296 := shn_lt k hx
      have HS : Hid (shn (k + 1) x = sh (shn k x)) := rfl
      generalize shn k x = y at *
      have hand := and_one hy
      have hxor := xor_poly hy
      have hc : y % 2 = 0 ∨ y % 2 = 1 := by omega
      rcases hc with hc | hc
      all_goals
        rw [hc] at hand
        go_wp2
        go_round
        case rel => exact ⟨k + 1, by omega, by go_num, by rw [HS.out, sh, hc]; simp⟩
        case measure => simp [intOf]; omega
    · obtain rfl : k = 8 := by omega
      go_wp2
      go_ret
      exact ⟨rfl, rfl⟩
end Go.Proofs.Yteajcgodfbaeiaa
