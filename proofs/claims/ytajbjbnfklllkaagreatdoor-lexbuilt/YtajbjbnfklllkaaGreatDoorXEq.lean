/- Tokens compared with themselves; tokens in two blocks. -/
import Derived.Test.YtajbjbnfklllkaaGreatDoorXPrint
import Derived.Laws.StructEq
namespace Go.Proofs.YtajbjbnfklllkaaGreatDoor
open Go.RowKit

theorem fields34 : Tryz.prog.underlying 34 = some (.struct (Tryz.prog.fieldsOf 34)) := by kernel_rfl
theorem stood34 : Tryz.prog.stoodInHeld 34 = false := by kernel_rfl
theorem fields36 : Tryz.prog.underlying 36 = some (.struct (Tryz.prog.fieldsOf 36)) := by kernel_rfl
theorem stood36 : Tryz.prog.stoodInHeld 36 = false := by kernel_rfl
theorem guard36 : Tryz.prog.eqGuardType Tryz.prog.depth 36 = false := by kernel_rfl
theorem eqIn_num (f : Nat) (o : Bool) (n : Int) (w : World) : (Op.equalIn (f + 2) 34 (.agg #[.bool o, .int .i64 n]) (.agg #[.bool o, .int .i64 n])).run Tryz.prog w = .ok true w := by
  have u4 := Tryz.underlying4
  have a4 := Tryz.isAgg4
  have z4 := Tryz.sizeOf4
  have u2 := Tryz.underlying2
  have a2 := Tryz.isAgg2
  have z2 := Tryz.sizeOf2
  rw [show f + 2 = (f + 1) + 1 from rfl, run_equalIn_agg w (f + 1) 34 _ _ fields34 stood34]
  simp only [Program.fieldsOf, Tryz.underlying34]
  go_simp
theorem eqIn_tok (x : Tk) (w : World) : (Op.equalIn 10000 36 (tv x) (tv x)).run Tryz.prog w = .ok true w := by
  have u3 := Tryz.underlying3
  have a3 := Tryz.isAgg3
  have z3 := Tryz.sizeOf3
  have u9 := Tryz.underlying9
  have a9 := Tryz.isAgg9
  have z9 := Tryz.sizeOf9
  have u34 := Tryz.underlying34
  have a34 := Tryz.isAgg34
  have z34 := Tryz.sizeOf34
  have en := eqIn_num 9997 x.o x.n
  rw [show (10000 : Nat) = 9999 + 1 from rfl, run_equalIn_agg w 9999 36 _ _ fields36 stood36]
  simp only [Program.fieldsOf, Tryz.underlying36]
  go_simp
theorem neq_tok (x : Tk) (w : World) : (binOp .neq 36 (tv x) (tv x)).run Tryz.prog w = .ok (.bool false) w := by
  rw [run_neq_struct, eqIn_tok]
  rfl
theorem guard_tok (x y : Operand) (xs ys : Array Value) (w : World) : (eqGuard .neq 36 x y (.agg xs) (.agg ys)).run Tryz.prog w = .ok () w := run_eqGuard_agg w .neq 36 x y xs ys guard36

/-! ### Two boxes -/
theorem BoxT.put6 {w : World} {b : Nat} {x : Tk} (h : BoxT w b x) (y : Tk) : BoxT (set6 w b (.int .i64 y.k) (.int .i64 y.p) (tx y.t) (.bool y.o) (.int .i64 y.n) (.int .i64 y.d)) b y := by
  obtain ⟨c0, c1, c2, c3, c4, c5, f0, f1, f2, f3, f4, f5⟩ := h
  constructor <;> simp [go_sem, c0, c1, c2, c3, c4, c5, f0, f1, f2, f3, f4, f5]
theorem BoxT.put1 {w : World} {b : Nat} {x : Tk} (h : BoxT w b x) (p : Int) : BoxT (w.setCell ⟨b, 1, none⟩ (.int .i64 p)) b (x.put p) := by
  obtain ⟨c0, c1, c2, c3, c4, c5, f0, f1, f2, f3, f4, f5⟩ := h
  constructor <;> simp [go_sem, Tk.put, c0, c1, c2, c3, c4, c5, f0, f1, f2, f3, f4, f5]
theorem BoxT.far6 {w : World} {b b' : Nat} {x : Tk} (h : BoxT w b x) (hne : b ≠ b') (v0 v1 v2 v3 v4 v5 : Value) : BoxT (set6 w b' v0 v1 v2 v3 v4 v5) b x := h.kept (grown6 _ _ _ _ _ _ _ _) (fun e => hne (by injection e))
theorem BoxT.far1 {w : World} {b b' : Nat} {x : Tk} (h : BoxT w b x) (hne : b ≠ b') (o : Nat) (v : Value) : BoxT (w.setCell ⟨b', o, none⟩ v) b x := h.kept (grown_set _ _ _ _) (fun e => hne (by injection e))
def AtT (w : World) (b o : Nat) (x : Tk) : Prop := w.cell? ⟨b, o, none⟩ = some (.int .i64 x.k) ∧ w.cell? ⟨b, o + 1, none⟩ = some (.int .i64 x.p) ∧ w.cell? ⟨b, o + 2, none⟩ = some (tx x.t) ∧ w.cell? ⟨b, o + 3, none⟩ = some (.bool x.o) ∧ w.cell? ⟨b, o + 4, none⟩ = some (.int .i64 x.n) ∧ w.cell? ⟨b, o + 5, none⟩ = some (.int .i64 x.d)
theorem AtT.later {w w' : World} {b o : Nat} {x : Tk} (h : AtT w b o x) (hb : Below w.heap.size w w') : AtT w' b o x := by
  obtain ⟨h0, h1, h2, h3, h4, h5⟩ := h
  have hl : b < w.heap.size := World.block_lt_of_cell? _ _ h0
  exact ⟨(hb.cell (p := ⟨b, o, none⟩) hl).trans h0, (hb.cell (p := ⟨b, o + 1, none⟩) hl).trans h1, (hb.cell (p := ⟨b, o + 2, none⟩) hl).trans h2, (hb.cell (p := ⟨b, o + 3, none⟩) hl).trans h3, (hb.cell (p := ⟨b, o + 4, none⟩) hl).trans h4, (hb.cell (p := ⟨b, o + 5, none⟩) hl).trans h5⟩
end Go.Proofs.YtajbjbnfklllkaaGreatDoor
