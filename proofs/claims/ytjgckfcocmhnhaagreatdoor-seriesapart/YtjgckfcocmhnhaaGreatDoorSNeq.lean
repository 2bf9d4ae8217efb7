/- Two numbers that are alike are not unlike. -/
import Derived.Test.YtjgckfcocmhnhaaGreatDoorSApQ
namespace Go.Proofs.YtjgckfcocmhnhaaGreatDoor.Sr
open Go.RowKit Rn

theorem num_neq (ev : Operand → Value) (o : Oper) (x y : Operand) (v : Int) (ho : o.op = .binOp .neq 33 x y 33) (hx : ev x = .agg #[.bool false, .int .i64 v]) (hy : ev y = .agg #[.bool false, .int .i64 v]) (W : World) :
    Sem.run Tryz.prog (execOp ev o) W = Result.ok (.value (.bool false)) W := by
  unfold execOp
  simp only [ho, hx, hy]
  go_simp
end Go.Proofs.YtjgckfcocmhnhaaGreatDoor.Sr
