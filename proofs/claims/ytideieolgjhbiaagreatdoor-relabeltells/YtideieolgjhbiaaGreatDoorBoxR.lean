/- Rules in blocks of their own. -/
import Derived.Test.YtideieolgjhbiaaGreatDoorKnownR
namespace Go.Proofs.YtideieolgjhbiaaGreatDoor
open Go.RowKit

theorem apply_one {l : List Pr} {r : Rl} (hr : fRule r = true) (hl : fIs l = true) : fApply l [r] = apAll l [r] := by
  unfold fApply rulesOk
  rw [if_pos (by simp [hr]), if_pos hl]
/-- A rule that lies in a block of its own, as callers have it. -/
structure BoxR (w : World) (b : Nat) (r : Rl) : Prop where
  c0 : w.cell? ⟨b, 0, none⟩ = some (.int .i64 r.act)
  c1 : w.cell? ⟨b, 1, none⟩ = some (tx r.frm.name)
  c2 : w.cell? ⟨b, 2, none⟩ = some (.int .i64 r.frm.kind)
  c3 : w.cell? ⟨b, 3, none⟩ = some (tx r.frm.text)
  c4 : w.cell? ⟨b, 4, none⟩ = some (tx r.tgt)
  c5 : w.cell? ⟨b, 5, none⟩ = some (tx r.txt)
abbrev cR (r : Rl) : Obj := .cells #[.int .i64 r.act, tx r.frm.name, .int .i64 r.frm.kind, tx r.frm.text, tx r.tgt, tx r.txt] 35
theorem BoxR.new (w : World) (r : Rl) : BoxR (w.alloc (cR r)) w.heap.size r := by
  constructor <;> simp [go_sem]
theorem BoxR.later {w w' : World} {b : Nat} {r : Rl} (h : BoxR w b r) (hb : Below w.heap.size w w') : BoxR w' b r :=
  ⟨cell_later h.c0 hb, cell_later h.c1 hb, cell_later h.c2 hb, cell_later h.c3 hb, cell_later h.c4 hb, cell_later h.c5 hb⟩
theorem size_alloc (w : World) (o : Obj) : (w.alloc o).heap.size = w.heap.size + 1 := by simp [go_sem]

end Go.Proofs.YtideieolgjhbiaaGreatDoor
