/- Texts that the others lean on. -/
import Derived.Deep.WholeRow
import Derived.Deep.OwnRows
import Derived.Test.YteankdaegdhfiaaGreatDoorKMB
import Derived.Test.YteankdaegdhfiaaGreatDoorKMX
namespace Go.Proofs.YteankdaegdhfiaaGreatDoor
open Go.RowKit
/-- The signs, longer ones first, and two empty texts. -/
def sgL : List Str := [[94, 61], [42, 61], [33, 61], [61, 61], [62, 61], [60, 61], [40], [41], [123], [125], [91], [93], [44], [43], [45], [42], [47], [61], [62], [60], [], []]
def sgV (k : Nat) : Value := tx (sgL.getD k [])
abbrev sgA : Array Value := #[.string ⟨#[94, 61]⟩, .string ⟨#[42, 61]⟩, .string ⟨#[33, 61]⟩, .string ⟨#[61, 61]⟩, .string ⟨#[62, 61]⟩, .string ⟨#[60, 61]⟩, .string ⟨#[40]⟩, .string ⟨#[41]⟩, .string ⟨#[123]⟩, .string ⟨#[125]⟩, .string ⟨#[91]⟩, .string ⟨#[93]⟩, .string ⟨#[44]⟩, .string ⟨#[43]⟩, .string ⟨#[45]⟩, .string ⟨#[42]⟩, .string ⟨#[47]⟩, .string ⟨#[61]⟩, .string ⟨#[62]⟩, .string ⟨#[60]⟩, .string ⟨#[]⟩, .string ⟨#[]⟩]
abbrev z22 : Array Value := #[.string ⟨#[]⟩, .string ⟨#[]⟩, .string ⟨#[]⟩, .string ⟨#[]⟩, .string ⟨#[]⟩, .string ⟨#[]⟩, .string ⟨#[]⟩, .string ⟨#[]⟩, .string ⟨#[]⟩, .string ⟨#[]⟩, .string ⟨#[]⟩, .string ⟨#[]⟩, .string ⟨#[]⟩, .string ⟨#[]⟩, .string ⟨#[]⟩, .string ⟨#[]⟩, .string ⟨#[]⟩, .string ⟨#[]⟩, .string ⟨#[]⟩, .string ⟨#[]⟩, .string ⟨#[]⟩, .string ⟨#[]⟩]
theorem sgA_row (w : World) : (w.alloc (.cells sgA 148)).rowIs w.heap.size 148 22 sgV := by
 refine ⟨sgA, heap_alloc_new w _, rfl, fun i hi => ?_⟩
 match i, hi with
 | 0, _ | 1, _ | 2, _ | 3, _ | 4, _ | 5, _ | 6, _ | 7, _ | 8, _ | 9, _ | 10, _ | 11, _ | 12, _ | 13, _ | 14, _ | 15, _ | 16, _ | 17, _ | 18, _ | 19, _ | 20, _ | 21, _ => rfl
 | i + 22, h => omega
theorem wp_build45 {w : World} {ops : Array Oper} {rest : List Oper} {o : Oper} {a : Act} {Q : Exit → Act → World → Prop} (hgd : o.guard = none) (ho : o.op = .build 148 #[(0, .const (.string ⟨#[94, 61]⟩)), (1, .const (.string ⟨#[42, 61]⟩)), (2, .const (.string ⟨#[33, 61]⟩)), (3, .const (.string ⟨#[61, 61]⟩)), (4, .const (.string ⟨#[62, 61]⟩)), (5, .const (.string ⟨#[60, 61]⟩)), (6, .const (.string ⟨#[40]⟩)), (7, .const (.string ⟨#[41]⟩)), (8, .const (.string ⟨#[123]⟩)), (9, .const (.string ⟨#[125]⟩)), (10, .const (.string ⟨#[91]⟩)), (11, .const (.string ⟨#[93]⟩)), (12, .const (.string ⟨#[44]⟩)), (13, .const (.string ⟨#[43]⟩)), (14, .const (.string ⟨#[45]⟩)), (15, .const (.string ⟨#[42]⟩)), (16, .const (.string ⟨#[47]⟩)), (17, .const (.string ⟨#[61]⟩)), (18, .const (.string ⟨#[62]⟩)), (19, .const (.string ⟨#[60]⟩)), (20, .const (.string ⟨#[]⟩)), (21, .const (.string ⟨#[]⟩))])
  (h : ∀ cs, Hid (cs = sgA) → wpList Tryz.prog ops Q rest (a.put o.dst (.agg cs)) w) : wpList Tryz.prog ops Q (o :: rest) a w :=
 wpList_build hgd 148 _ ho (by kernel_rfl) (h _ (show _ = _ by kernel_rfl))
theorem wp_store45 {w2 : World} {ops : Array Oper} {rest : List Oper} {o : Oper} {a : Act} {Q : Exit → Act → World → Prop} (hgd : o.guard = none) (x y : Operand) (ho : o.op = .store 148 x y) (cs : Array Value) (hcs : Hid (cs = sgA))
  (hx : a.eval x = .pointer (some ⟨w2.heap.size, 0, none⟩)) (hy : a.eval y = .agg cs)
  (h : ∀ W, W = w2.alloc (.cells cs 148) → wpList Tryz.prog ops Q rest (a.put o.dst undef) W) : wpList Tryz.prog ops Q (o :: rest) a (w2.alloc (.cells z22 148)) := by
 have e := hcs.out
 subst e
 refine wpList_store_row hgd 148 x y ho w2.heap.size sgA hx hy 148 z22 (heap_alloc_new w2 _) (by kernel_rfl) rfl (by kernel_rfl) ?_
 rw [World.setRow_alloc_new]
 exact h _ rfl
theorem wp_store45r {w2 : World} {ops : Array Oper} {rest : List Oper} {o : Oper} {a : Act} {Q : Exit → Act → World → Prop} (hgd : o.guard = none) (x y : Operand) (ho : o.op = .store 148 x y) (cs : Array Value) (hcs : Hid (cs = sgA))
  (hx : a.eval x = .pointer (some ⟨w2.heap.size, 0, none⟩)) (hy : a.eval y = .agg cs)
  (h : ∀ W, Hid (World.rowIs W w2.heap.size 148 22 sgV) → Below w2.heap.size w2 W → wpList Tryz.prog ops Q rest (a.put o.dst undef) W) : wpList Tryz.prog ops Q (o :: rest) a (w2.alloc (.cells z22 148)) :=
 wp_store45 hgd x y ho cs hcs hx hy fun W hW => by
  subst hW
  refine h _ ?_ (bal (Below.refl _ _) _)
  show World.rowIs _ _ _ _ _
  rw [hcs.out]
  exact sgA_row w2
set_option maxHeartbeats 4000000 in
set_option maxRecDepth 20000 in
theorem signs_any (w : World) : Calls Tryz.prog 107 #[] w fun e w' => ∃ cs, e = .returned (.agg cs) ∧ Hid (cs = sgA) ∧ Below w.heap.size w w' := by
 go_enter Tryz.func107, Tryz.ntmps107
 go_wp2_with (first | (refine wp_build45 rfl rfl ?_; intro cs hcs) | (refine wp_store45 (w2 := w) rfl _ _ rfl cs hcs rfl rfl ?_; intro w3 hw3))
 subst hw3
 exact bodyPost_ret (results_cell_row (p := 0) (ty := 148) Tryz.results107 _ _ w.heap.size 148 cs (0, 0) _ rfl (heap_alloc_last w _) Tryz.underlying148 rfl (by rw [hcs.out]; kernel_rfl)) rfl ⟨cs, rfl, hcs, bal (Below.refl _ _) _⟩
end Go.Proofs.YteankdaegdhfiaaGreatDoor
