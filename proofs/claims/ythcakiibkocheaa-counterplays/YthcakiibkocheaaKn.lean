/- Small facts of numbers that the laws lean on. -/
import Derived.Test.YthcakiibkocheaaMul
namespace Go.Proofs.Ythcakiibkocheaa
open Go.RowKit

theorem ex_cnt (n : Int) (h : -9223372036854775807 ≤ n) : cnt false n = some n := by
  unfold cnt
  rw [if_neg (by intro e; rcases e with e | e; cases e; omega)]
theorem field_ovf (o : Bool) (n : Int) (w : World) : (Instr.field 28 (.agg #[.bool o, .int .i64 n]) 0).run Try.prog w = .ok (.bool o) w := by kernel_rfl
end Go.Proofs.Ythcakiibkocheaa
