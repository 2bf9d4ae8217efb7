/- The document's own quotient, of values. -/
import Derived.Test.YthcakiibkocheaaCMl
import Derived.Test.YthcakiibkocheaaCVal
namespace Go.Proofs.Ythcakiibkocheaa
open Go.RowKit

theorem quo_vals (a c : Option Int) (w : World) (ha : V a) (hc : V c) : Calls Try.prog 16 #[.agg #[.bool (ov a), .int .i64 (nn a)], .agg #[.bool (ov c), .int .i64 (nn c)]] w fun e w' => e = .returned (.agg #[.bool (ov (fDiv a c)), .int .i64 (nn (fDiv a c))]) ∧ Below w.heap.size w w' := by
  have h := rquo_any (ov a) (ov c) (nn a) (nn c) w (V.r64 ha) (V.r64 hc)
  rw [cnt_val ha, cnt_val hc] at h
  exact h
theorem run_neq (ev : Operand → Value) (o : Oper) (x y : Operand) (b : Bool) (n : Int) (ho : o.op = Op.binOp BinOp.neq 28 x y 28) (h1 : ev x = .agg #[.bool b, .int .i64 n]) (h2 : ev y = .agg #[.bool b, .int .i64 n]) (w : World) :
    (execOp ev o).run Try.prog w = .ok (.value (.bool false)) w := by
  obtain ⟨d, op, t, p, a, g⟩ := o
  subst ho
  have hg : ∀ w, (eqGuard BinOp.neq 28 x y (.agg #[.bool b, .int .i64 n]) (.agg #[.bool b, .int .i64 n])).run Try.prog w = .ok () w := fun w => by go_simp
  have hn : ∀ w, (binOp .neq 28 (.agg #[.bool b, .int .i64 n]) (.agg #[.bool b, .int .i64 n])).run Try.prog w = .ok (.bool false) w := fun w => by go_simp
  unfold execOp
  go_simp
end Go.Proofs.Ythcakiibkocheaa
