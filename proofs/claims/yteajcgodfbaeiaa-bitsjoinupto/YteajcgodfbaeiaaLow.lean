/- The contract of lowest: the lowest bytes of a number, in new memory. -/
import Derived.Test.YteajcgodfbaeiaaSum
import Derived.Deep.DeepMust
namespace Go.Proofs.Yteajcgodfbaeiaa
open Go.RowKit

theorem info5 : (Try.prog.info? 5).map (fun i => (i.zero, i.size, i.bytes)) = some (some (.int .u8 0), 1, 1) := by kernel_rfl
def cells (l : List UInt8) : List Value := l.map fun c => .int .u8 c.toNat
theorem cells_length (l : List UInt8) : (cells l).length = l.length := by simp [cells]
theorem cells_get {l : List UInt8} {j : Nat} (h : j < l.length) : (cells l)[j]? = some (.int .u8 (l.getD j 0).toNat) := by
  simp [cells, List.getD, h]

theorem low_cell {x k : Nat} (n : Nat) (hk : k < n) : Value.int .u8 ((x : Int) / 2 ^ (8 * k) % 256) = .int .u8 (((low x n).getD k 0).toNat : Int) := by
  rw [low_get n x k hk, ← pow_eq]
  congr 1

theorem lowest_any (x n : Nat) (h8 : n ≤ 8) (w : World) :
    Calls Try.prog 24 #[.int .u64 x, .int .i64 n] w fun e w' => ∃ ao, e = .returned (.slice ao n n) ∧ Bs w' ao n n (low x n) ∧ Below w.heap.size w w' := by
  obtain ⟨i0, hi, hz0, hz1, hz2⟩ := info_parts info5
  go_enter Try.func24, Try.ntmps24
  go_wp2_with (at_make; go_must (refine wpList_make_full _ rfl _ _ 22 rfl w.heap.size 5 i0 (.int .u8 0) 1 Try.underlying22 hi hz0 hz1 _ _ _ _ n rfl rfl rfl rfl (by rw [hz2]; omega) (by unfold maxLen; omega) (Nat.le_refl _) ?_))
  intro w1 hown hgr
  have hb1 : Below w.heap.size w w1 := (Below.refl _ _).grown hgr (Nat.le_refl _) (fun k h => by cases h)
  go_wp2
  go_loopw [11] (fun i wr => ∃ k : Nat, k ≤ n ∧ i = .int .i64 k ∧ ∃ xs, wr.ownsRow w.heap.size 5 1 (.slice (some ⟨w.heap.size, 0, none⟩) n n) n xs ∧ Below w.heap.size w wr ∧ ∀ j, j < k → xs[j]? = some (.int .u8 ((low x n).getD j 0).toNat)) (fun i _ => n - (intOf i).toNat)
  case atStart => exact ⟨0, by omega, rfl, _, hown, hb1, fun j h => by omega⟩
  case round =>
    obtain ⟨k, hk, rfl, xs, ho, hb, hxs⟩ := hrel
    by_cases hlt : k < n
    · have hlx := ho.1
      have hcell := ho.cellAt k (by omega)
      have hfr := ho.frozenAt k
      have hst := fun u => ho.stored k u
      obtain ⟨old, hold⟩ : ∃ old, xs[k]? = some old := ⟨xs[k], by simp⟩
      rw [hold] at hcell
      go_wp2
      go_roundw
      case rel =>
        refine ⟨k + 1, by omega, by go_num, _, (hst _).1, hb.setCell (Nat.le_refl _) _, fun j hj => ?_⟩
        by_cases hjk : j = k
        · subst hjk
          rw [List.getElem?_set_self (by omega), low_cell n hlt]
        · rw [List.getElem?_set_ne (by omega)]
          exact hxs j (by omega)
      case measure => simp [intOf]; omega
    · obtain rfl : k = n := by omega
      go_wp2
      go_ret
      exact ⟨_, rfl, ⟨low_length _ _, Nat.le_refl _, by unfold maxLen; omega, fun _ => ⟨_, 0, rfl, fun j hj => by rw [Nat.zero_add, ho.cellAt j (by omega)]; exact hxs j hj⟩⟩, hb⟩
end Go.Proofs.Yteajcgodfbaeiaa
