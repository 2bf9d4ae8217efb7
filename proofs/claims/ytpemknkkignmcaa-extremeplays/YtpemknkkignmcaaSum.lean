
/- Sum, Add, Sub: each for every argument (a slice of at most a thousand numbers). -/
import Derived.Test.YtpemknkkignmcaaCnt
import Derived.Laws.Externs
namespace Go.Proofs.Ytpemknkkignmcaa
open Go.RowKit

/-- A slice of numbers that reads as l. -/
def Ns (w : World) (ao : Option Addr) (n : Nat) (l : List (Bool × Int)) : Prop :=
  l.length = n ∧ (0 < n → ∃ b off, ao = some ⟨b, off, none⟩ ∧ ∀ j, j < n → w.cell? ⟨b, off + j * 2, none⟩ = some (.bool (l.getD j (false, 0)).1) ∧ w.cell? ⟨b, off + j * 2 + 1, none⟩ = some (.int .i64 (l.getD j (false, 0)).2))
theorem counted_some {o : Bool} {n a : Int} (hr : cnt o n = some a) (w : World) (h0 : -9223372036854775808 ≤ n) : Calls Try.prog 30 #[.agg #[.bool o, .int .i64 n]] w fun e w' => e = .returned (.agg #[.bool false, .int .i64 a]) ∧ Below w.heap.size w w' := by
  have h := counted_any o n w h0
  rw [hr] at h
  exact h
theorem counted_none {o : Bool} {n : Int} (hr : cnt o n = none) (w : World) (h0 : -9223372036854775808 ≤ n) : Calls Try.prog 30 #[.agg #[.bool o, .int .i64 n]] w fun e w' => e = .returned (.agg #[.bool true, .int .i64 0]) ∧ Below w.heap.size w w' := by
  have h := counted_any o n w h0
  rw [hr] at h
  exact h
theorem getD_mem {l : List (Bool × Int)} {j : Nat} (h : j < l.length) : l.getD j (false, 0) ∈ l := by
  rw [List.getD_eq_getElem?_getD, List.getElem?_eq_getElem h]
  exact List.getElem_mem h

/-- Two numbers in new memory. -/
theorem Ns.two (w : World) (o p : Bool) (n m : Int) : Ns (w.alloc (.cells #[.bool o, .int .i64 n, .bool p, .int .i64 m] 28)) (some ⟨w.heap.size, 0, none⟩) 2 [(o, n), (p, m)] := by
  refine ⟨rfl, fun _ => ⟨_, 0, rfl, fun j hj => ?_⟩⟩
  have : j = 0 ∨ j = 1 := by omega
  rcases this with rfl | rfl <;> constructor <;> simp [go_sem]
theorem Ns.three (w : World) (o p q : Bool) (n m k : Int) : Ns (w.alloc (.cells #[.bool o, .int .i64 n, .bool p, .int .i64 m, .bool q, .int .i64 k] 28)) (some ⟨w.heap.size, 0, none⟩) 3 [(o, n), (p, m), (q, k)] := by
  refine ⟨rfl, fun _ => ⟨_, 0, rfl, fun j hj => ?_⟩⟩
  have : j = 0 ∨ j = 1 ∨ j = 2 := by omega
  rcases this with rfl | rfl | rfl <;> constructor <;> simp [go_sem]
theorem Ns.nil (w : World) : Ns w none 0 [] := ⟨rfl, fun h => by omega⟩
/-- What is no number's pair of an int64 is barred. -/
def R64 (n : Int) : Prop := -9223372036854775808 ≤ n ∧ n ≤ 9223372036854775807
end Go.Proofs.Ytpemknkkignmcaa
