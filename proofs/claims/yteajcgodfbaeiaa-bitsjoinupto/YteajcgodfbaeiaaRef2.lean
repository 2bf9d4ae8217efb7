/- The contracts of the reference's Put and Text: onto a row of the call's own; and of a copy of bytes. -/
import Derived.Test.YteajcgodfbaeiaaRef
namespace Go.Proofs.Yteajcgodfbaeiaa
open Go.RowKit

theorem low_snoc : ∀ (k x : Nat), low x (k + 1) = low x k ++ [UInt8.ofNat (x / 256 ^ k)]
  | 0, x => by simp [low]
  | k + 1, x => by
    have h := low_snoc k (x / 256)
    rw [low, h, low, List.cons_append, Nat.div_div_eq_div_mul, Nat.pow_succ, Nat.mul_comm 256]

theorem Bs.of_own {w : World} {base n : Nat} {v : Value} {l : List UInt8} (h : w.ownsRow base 5 1 v n (cells l)) : ∃ ao cap, v = .slice ao n cap ∧ Bs w ao n cap l := by
  rcases h.2 with ⟨rfl, rfl⟩ | ⟨g, cap, cur, rfl, _⟩
  · have hl := h.1
    rw [cells_length] at hl
    obtain rfl : l = [] := List.eq_nil_of_length_eq_zero (by omega)
    exact ⟨Option.none, 0, rfl, Bs.nil w⟩
  · exact ⟨_, cap, rfl, Bs.of_row h⟩

/-- A copy of bytes: nil, appended to. -/
theorem copy_run (W : World) (ao : Option Addr) (n cap : Nat) (l : List UInt8) (hb : Bs W ao n cap l) (hn : n ≤ 1000000) :
    ∃ a' c' W', (Builtin.append_ #[22, 22] 22 #[.slice none 0 0, .slice ao n cap]).run Try.prog W = .ok (.slice a' n c') W' ∧ W'.ownsRow W.heap.size 5 1 (.slice a' n c') n (cells l) ∧ Below W.heap.size W W' := by
  obtain ⟨i0, hi, hz0, hz1, hz2⟩ := info_parts info5
  have hnil := World.ownsRow_nil W W.heap.size 5 1
  cases ao with
  | none =>
    obtain ⟨rfl, rfl⟩ := hb.none
    obtain rfl : l = [] := List.eq_nil_of_length_eq_zero hb.1
    exact ⟨_, _, _, run_append_owned_none W W.heap.size 22 22 5 i0 1 Try.underlying22 hi _ 0 [] hnil, hnil, Below.refl _ _⟩
  | some ad =>
    obtain ⟨v', W', hr, ho, hg, hv⟩ := run_append_own (P := Try.prog) W W.heap.size 22 22 5 i0 (.int .u8 0) 1 1 Try.underlying22 hi hz0 hz1 hz2 rfl (by decide) _ 0 [] hnil ad n cap (cells l) (by rw [cells_length, hb.1]; omega) hb.at (cells_one l) (by unfold maxLen; omega) (by omega) (Nat.le_refl _)
    rw [Nat.zero_add, List.nil_append] at ho
    obtain ⟨a', c', rfl, _⟩ := Bs.of_own ho
    exact ⟨a', c', W', hr, ho, (Below.refl _ _).grown hg (Nat.le_refl _) (fun k h => by cases h)⟩

theorem byte_wrap (x k : Nat) : (x : Int) / 2 ^ (8 * k) % 256 = ((UInt8.ofNat (x / 256 ^ k)).toNat : Int) := by
  rw [← pow_eq]
  simp

set_option maxHeartbeats 1000000 in
theorem rput_any (base : Nat) (v : Value) (n x : Nat) (bytes : Int) (l : List UInt8) (w : World) (ho : w.ownsRow base 5 1 v n (cells l)) (hB : n ≤ 1000000) (hbase : base ≤ w.heap.size) :
    Calls Try.prog 15 #[v, .int .u64 x, .int .i64 bytes] w fun e w' => ∃ v', e = .returned v' ∧ w'.ownsRow base 5 1 v' (n + held bytes) (cells (l ++ low x (held bytes))) ∧ Below base w w' := by
  obtain ⟨i0, hi, hz0, hz1, hz2⟩ := info_parts info5
  have hh := held_le bytes
  have hk : (bytes ≤ 0 ∧ held bytes = 0) ∨ (8 < bytes ∧ held bytes = 8) ∨ (0 < bytes ∧ bytes ≤ 8 ∧ bytes = (held bytes : Int)) := by unfold held; omega
  generalize held bytes = k at *
  rcases hk with ⟨h1, rfl⟩ | ⟨h1, rfl⟩ | ⟨h1, h2, rfl⟩
  · go_enter Try.func15, Try.ntmps15
    go_wp2
    go_loopw [0, 8] (fun u i wr => u = v ∧ i = .int .i64 0 ∧ wr = w) (fun _ _ _ => 0)
    case atStart => exact ⟨rfl, rfl, rfl⟩
    case round =>
      obtain ⟨rfl, rfl, rfl⟩ := hrel
      go_wp2
      go_ret
      exact ⟨_, rfl, by simpa [low] using ho, Below.refl _ _⟩
  · go_enter Try.func15, Try.ntmps15
    go_wp2
    go_loopw [0, 8] (fun u i wr => ∃ j : Nat, j ≤ 8 ∧ i = .int .i64 j ∧ wr.ownsRow base 5 1 u (n + j) (cells (l ++ low x j)) ∧ Below base w wr) (fun _ i _ => 8 - (intOf i).toNat)
    case atStart => exact ⟨0, by omega, rfl, by simpa [low] using ho, Below.refl _ _⟩
    case round =>
      obtain ⟨j, hj, rfl, ho2, hb⟩ := hrel
      have hsz := hb.size
      by_cases hlt : j < 8
      · have hby := byte_wrap x j
        have hsn : low x (j + 1) = low x j ++ [UInt8.ofNat (x / 256 ^ j)] := low_snoc j x
        have HS : Hid _ := hsn
        clear hsn
        generalize UInt8.ofNat (x / 256 ^ j) = c at *
        have ho3 := ho2.alloc (.cells #[.int .u8 (c.toNat : Int)] 5)
        go_wp2_with (at_builtin; go_must (refine wpList_append_own _ rfl _ _ 22 rfl base 5 i0 (.int .u8 0) 1 1 Try.underlying22 hi hz0 hz1 hz2 rfl Nat.zero_lt_one _ (n + j) (cells (l ++ low x j)) rfl ho3 ⟨wr.heap.size, 0, none⟩ 1 1 (cells [c]) rfl rfl (cell_one_new _ _ _) (cells_one _) ?hm ?hby ?hba ?_))
        case hm => unfold maxLen; omega
        case hby => omega
        case hba => simp; omega
        intro v2 w2 ho4 hg4 _
        go_wp2
        go_roundw
        case rel =>
          refine ⟨j + 1, by omega, by go_num, ?_, (hb.alloc (by omega) _).grown hg4 (by simp; omega) (fun i e => (ho2.lt i e).1)⟩
          rw [HS.out, ← List.append_assoc, cells_append]
          exact ho4
        case measure => simp [intOf]; omega
      · obtain rfl : j = 8 := by omega
        go_wp2
        go_ret
        exact ⟨_, rfl, ho2, hb⟩
  · go_enter Try.func15, Try.ntmps15
    go_wp2
    go_loopw [0, 8] (fun u i wr => ∃ j : Nat, j ≤ k ∧ i = .int .i64 j ∧ wr.ownsRow base 5 1 u (n + j) (cells (l ++ low x j)) ∧ Below base w wr) (fun _ i _ => k - (intOf i).toNat)
    case atStart => exact ⟨0, by omega, rfl, by simpa [low] using ho, Below.refl _ _⟩
    case round =>
      obtain ⟨j, hj, rfl, ho2, hb⟩ := hrel
      have hsz := hb.size
      by_cases hlt : j < k
      · have hby := byte_wrap x j
        have hsn : low x (j + 1) = low x j ++ [UInt8.ofNat (x / 256 ^ j)] := low_snoc j x
        have HS : Hid _ := hsn
        clear hsn
        generalize UInt8.ofNat (x / 256 ^ j) = c at *
        have ho3 := ho2.alloc (.cells #[.int .u8 (c.toNat : Int)] 5)
        go_wp2_with (at_builtin; go_must (refine wpList_append_own _ rfl _ _ 22 rfl base 5 i0 (.int .u8 0) 1 1 Try.underlying22 hi hz0 hz1 hz2 rfl Nat.zero_lt_one _ (n + j) (cells (l ++ low x j)) rfl ho3 ⟨wr.heap.size, 0, none⟩ 1 1 (cells [c]) rfl rfl (cell_one_new _ _ _) (cells_one _) ?hm ?hby ?hba ?_))
        case hm => unfold maxLen; omega
        case hby => omega
        case hba => simp; omega
        intro v2 w2 ho4 hg4 _
        go_wp2
        go_roundw
        case rel =>
          refine ⟨j + 1, by omega, by go_num, ?_, (hb.alloc (by omega) _).grown hg4 (by simp; omega) (fun i e => (ho2.lt i e).1)⟩
          rw [HS.out, ← List.append_assoc, cells_append]
          exact ho4
        case measure => simp [intOf]; omega
      · obtain rfl : j = k := by omega
        go_wp2
        go_ret
        exact ⟨_, rfl, ho2, hb⟩
end Go.Proofs.Yteajcgodfbaeiaa
