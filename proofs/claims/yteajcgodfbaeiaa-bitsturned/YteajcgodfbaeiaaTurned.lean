/-
  PROVED: for every bytes, every place and every four bytes the law BitsTurned of the program at this commit answers true and leaves its input as it was: one to four bytes beside one another that were turned are told by the sum. No condition.
-/
import Derived.Test.YteajcgodfbaeiaaRows
import Derived.Test.YteajcgodfbaeiaaCopy
import Derived.Test.YteajcgodfbaeiaaTurn
import Derived.Stop.BytesEq
import Derived.RegionTactic
import Derived.Deep.AppendLies
import Derived.BigRegion
import Derived.WalkKit
import Derived.ProofKit
import Derived.OpenShut
import Derived.ChangeOld
import Derived.Below
namespace Go.Proofs.Yteajcgodfbaeiaa.bitsTurned
open Go.ChangeShapes Go.WideShapes Go.ChangeAt Go.RowKit
set_option linter.unusedVariables false

theorem own : ownKnob Try.prog.godebug = none := by kernel_rfl
theorem laidOut : laidOutB Try.prog = true := by kernel_rfl
attribute [local go_sem ↓] Go.wp_at_zero Go.wp_at_succ

theorem sum_c {w : World} {ao : Option Addr} {n cap C : Nat} {l : List UInt8} (hb : Bs w ao n cap l) (hC : crc l = C) :
    Calls Try.prog 12 #[.slice ao n cap] w fun e w' => e = .returned (.int .u32 C) ∧ w = w' := by
  rw [← hC]
  exact sum_any ao n cap l w hb
theorem size_5 (w : World) : (sizeOf 5).run Try.prog w = .ok 1 w := by kernel_rfl
theorem arr_eq (d0 d1 d2 d3 : UInt8) (W : World) : (Op.equalIn 10000 44 (.agg #[.int .u8 d0.toNat, .int .u8 d1.toNat, .int .u8 d2.toNat, .int .u8 d3.toNat]) (.agg #[.int .u8 0, .int .u8 0, .int .u8 0, .int .u8 0])).run Try.prog W = .ok (([d0, d1, d2, d3] : List UInt8) == [0, 0, 0, 0]) W :=
  run_equalIn_bytes W 9998 44 5 4 Try.underlying44 Try.underlying5 size_5 [d0, d1, d2, d3] [0, 0, 0, 0] rfl rfl
theorem box_cell (w : World) (d0 d1 d2 d3 : UInt8) (ty : TypeId) (j : Nat) (hj : j < 4) :
    (w.alloc (.cells #[.int .u8 d0.toNat, .int .u8 d1.toNat, .int .u8 d2.toNat, .int .u8 d3.toNat] ty)).cell? ⟨w.heap.size, j, none⟩ = some (.int .u8 (([d0, d1, d2, d3] : List UInt8).getD j 0).toNat) := by
  have e : (w.alloc (.cells #[.int .u8 d0.toNat, .int .u8 d1.toNat, .int .u8 d2.toNat, .int .u8 d3.toNat] ty)).cell? ⟨w.heap.size, j, none⟩ = (#[.int .u8 d0.toNat, .int .u8 d1.toNat, .int .u8 d2.toNat, .int .u8 d3.toNat] : Array Value)[j]? := World.cell?_alloc_new w _ _ j
  rw [e]
  have h : j = 0 ∨ j = 1 ∨ j = 2 ∨ j = 3 := by omega
  rcases h with rfl | rfl | rfl | rfl <;> rfl
theorem set_cells (l : List UInt8) (j : Nat) (x : UInt8) : cells (l.set j x) = (cells l).set j (.int .u8 x.toNat) := by
  unfold cells
  rw [List.map_set]
theorem u8_xor_of (x d : UInt8) : bits BinOp.xor IntKind.u8 (x.toNat : Int) (d.toNat : Int) = ((x ^^^ d).toNat : Int) := by
  rw [u8_xor_nat _ _ x.toNat_lt d.toNat_lt, UInt8.toNat_xor]

set_option maxHeartbeats 4000000 in
theorem walk_in (a0 : Option Addr) (n0 c0 t : Nat) (d0 d1 d2 d3 : UInt8) (la : List UInt8) (w : World) (ha : Bs w a0 n0 c0 la) (h4 : 4 ≤ n0) (h0 : n0 ≤ 300) (ht : t < 65536) :
    Calls Try.prog 6 #[.slice a0 n0 c0, .int .u16 t, .agg #[.int .u8 d0.toNat, .int .u8 d1.toNat, .int .u8 d2.toNat, .int .u8 d3.toNat]] w fun e w' => e = .returned (.bool true) ∧ Below w.heap.size w w' := by
  have h4' : ¬ (n0 : Int) < 4 := by omega
  have h0' : ¬ (300 : Int) < (n0 : Int) := by omega
  obtain ⟨k, hk, hkl⟩ : ∃ k : Nat, (t : Int) % ((n0 : Int) - 3) = (k : Int) ∧ k + 4 ≤ n0 := by
    refine ⟨t % (n0 - 3), ?_, ?_⟩
    · rw [show ((n0 : Int) - 3) = ((n0 - 3 : Nat) : Int) by omega]
      simp
    · have := Nat.mod_lt t (show 0 < n0 - 3 by omega)
      omega
  have hbox := box_cell w d0 d1 d2 d3 44
  have Hbox : Hid _ := hbox
  clear hbox
  go_enter Try.func6, Try.ntmps6
  go_wp2_with fail
  refine (known_any _).mono ?_
  rintro e w1 ⟨rfl, hbel1⟩
  have hbelA := Below.chain (bal (Below.refl _ _) _) hbel1
  have ha1 := ha.later hbelA
  have hb1 : ∀ j, j < 4 → w1.cell? ⟨w.heap.size, j, none⟩ = some (.int .u8 (([d0, d1, d2, d3] : List UInt8).getD j 0).toNat) := fun j hj => (hbel1.cell (p := ⟨w.heap.size, j, none⟩) (by simp)).trans (Hbox.out j hj)
  have Hb1 : Hid _ := hb1
  clear hb1 Hbox hbel1
  go_wp2_with (at_builtin; go_must (refine wpList_copy rfl _ _ rfl a0 n0 c0 la rfl rfl ha1 (by omega) ?_))
  intro a2 c2 w2 ho2 hb2 hbel2
  obtain ⟨g, cap, hv, hg1, hg2⟩ := World.ownsRow.form ho2 (by omega)
  cases hv
  clear hb2
  generalize hds : ([d0, d1, d2, d3] : List UInt8) = ds at *
  have HDS : Hid _ := hds
  clear hds
  go_wp2_with fail
  go_loopw [9] (fun i wr => ∃ j : Nat, j ≤ 4 ∧ i = .int .i64 j ∧ wr.ownsRow w1.heap.size 5 1 (.slice (some ⟨g, 0, none⟩) n0 c2) n0 (cells (turnTo la k ds j)) ∧ Below w1.heap.size w1 wr) (fun i _ => 4 - (intOf i).toNat)
  case atStart => exact ⟨0, by omega, rfl, ho2, hbel2⟩
  case round =>
    obtain ⟨j, hj, rfl, ho, hb⟩ := hrel
    have hlen : (turnTo la k ds j).length = n0 := by rw [turnTo_length, ha.1]
    by_cases hlt : j < 4
    · have hc1 : wr.cell? ⟨g, k + j, none⟩ = some (.int .u8 ((turnTo la k ds j).getD (k + j) 0).toNat) := by rw [ho.cellAt (k + j) (by omega), cells_get (by omega)]
      have hf1 := ho.frozenAt (k + j)
      have hc2 : wr.cell? ⟨w.heap.size, j, none⟩ = some (.int .u8 (ds.getD j 0).toNat) := by
        have hlt1 : w.heap.size < w1.heap.size := World.block_lt_of_cell? _ _ (Hb1.out j hlt)
        exact (hb.cell (p := ⟨w.heap.size, j, none⟩) hlt1).trans (Hb1.out j hlt)
      have hst := fun u => ho.stored (k + j) u
      have HT : Hid (turnTo la k ds (j + 1) = (turnTo la k ds j).set (k + j) ((turnTo la k ds j).getD (k + j) 0 ^^^ ds.getD j 0)) := rfl
      have hx := u8_xor_of ((turnTo la k ds j).getD (k + j) 0) (ds.getD j 0)
      have hx1 := ((turnTo la k ds j).getD (k + j) 0).toNat_lt
      have hx2 := (ds.getD j 0).toNat_lt
      generalize (turnTo la k ds j).getD (k + j) 0 = x at *
      generalize ds.getD j 0 = d at *
      have hi1 : (0 : Int) ≤ (k : Int) + (j : Int) := by omega
      have hi2 : (k : Int) + (j : Int) < (n0 : Int) := by omega
      have hi3 : (j : Int) < 4 := by omega
      have Hst : Hid _ := hst
      clear hst
      go_wp2
      go_region
      go_wp2
      go_roundw
      case rel =>
        refine ⟨j + 1, by omega, by go_num, ?_, (hb.setCell hg1 _).drew⟩
        rw [HT.out, set_cells, UInt8.toNat_xor]
        exact (Hst.out _).1
      case measure => simp [intOf]; omega
    · obtain rfl : j = 4 := by omega
      have hlt1 : w.heap.size < w1.heap.size := World.block_lt_of_cell? _ _ (Hb1.out 0 (by decide))
      have hq : ∀ q, q < 4 → wr.cell? ⟨w.heap.size, q, none⟩ = some (.int .u8 (ds.getD q 0).toNat) := fun q hq => (hb.cell (p := ⟨w.heap.size, q, none⟩) hlt1).trans (Hb1.out q hq)
      obtain rfl := HDS.out
      have hq0 : wr.cell? ⟨w.heap.size, 0, none⟩ = some (.int .u8 d0.toNat) := hq 0 (by decide)
      have hq1 : wr.cell? ⟨w.heap.size, 1, none⟩ = some (.int .u8 d1.toNat) := hq 1 (by decide)
      have hq2 : wr.cell? ⟨w.heap.size, 2, none⟩ = some (.int .u8 d2.toNat) := hq 2 (by decide)
      have hq3 : wr.cell? ⟨w.heap.size, 3, none⟩ = some (.int .u8 d3.toNat) := hq 3 (by decide)
      have htold := told la k (by rw [ha.1]; exact hkl) d0 d1 d2 d3
      have hbs := Bs.of_row ho
      have ha2 := ha1.later hb
      clear hq
      have B2 : Below wr.heap.size wr wr.drew := (Below.refl _ _).drew
      have hsz : w.heap.size < wr.heap.size := Nat.lt_of_lt_of_le hlt1 hb.size
      have r0 : ∀ W : World, Below wr.heap.size wr W → W.cell? ⟨w.heap.size, 0, none⟩ = some (.int .u8 d0.toNat) := fun W h => (h.cell (p := ⟨w.heap.size, 0, none⟩) hsz).trans hq0
      have r1 : ∀ W : World, Below wr.heap.size wr W → W.cell? ⟨w.heap.size, 1, none⟩ = some (.int .u8 d1.toNat) := fun W h => (h.cell (p := ⟨w.heap.size, 1, none⟩) hsz).trans hq1
      have r2 : ∀ W : World, Below wr.heap.size wr W → W.cell? ⟨w.heap.size, 2, none⟩ = some (.int .u8 d2.toNat) := fun W h => (h.cell (p := ⟨w.heap.size, 2, none⟩) hsz).trans hq2
      have r3 : ∀ W : World, Below wr.heap.size wr W → W.cell? ⟨w.heap.size, 3, none⟩ = some (.int .u8 d3.toNat) := fun W h => (h.cell (p := ⟨w.heap.size, 3, none⟩) hsz).trans hq3
      have heq := arr_eq d0 d1 d2 d3
      generalize hC : crc (turnTo la k [d0, d1, d2, d3] 4) = C2 at *
      have HC : Hid _ := hC
      clear hC hq0 hq1 hq2 hq3
      by_cases hz : d0 = 0 ∧ d1 = 0 ∧ d2 = 0 ∧ d3 = 0
      · have hcrc := htold.2 hz
        have heq1 : ∀ W : World, (Op.equalIn 10000 44 (.agg #[.int .u8 d0.toNat, .int .u8 d1.toNat, .int .u8 d2.toNat, .int .u8 d3.toNat]) (.agg #[.int .u8 0, .int .u8 0, .int .u8 0, .int .u8 0])).run Try.prog W = .ok true W := fun W => by
          rw [heq W]
          obtain ⟨rfl, rfl, rfl, rfl⟩ := hz
          rfl
        have hc1 : ((crc la : Int) == (C2 : Int)) = true := by rw [hcrc]; simp
        clear heq htold hz hcrc
        go_wp2
        refine wp_region_noPanic ?_
        refine wp_region_held_drew (S := fun W => Below wr.heap.size wr W) (by kernel_rfl) ?_ (fun _ => ?_)
        · exact B2
        refine take_at 0 (some 43) (.slice a0 n0 c0) rfl rfl (by kernel_rfl) (by kernel_rfl) (by kernel_rfl) (fun _ _ _ h => h) (by rfl) (fun W hSw => by go_simp) B2 ?_
        simp only [Act.put, List.setIfInBounds_toArray, List.set_cons_zero, List.set_cons_succ]
        refine take_at 2 (some 45) (.slice (some ⟨g, 0, none⟩) n0 c2) rfl rfl (by kernel_rfl) (by kernel_rfl) (by kernel_rfl) (fun _ _ _ h => h) (by rfl) (fun W hSw => by go_simp) B2 ?_
        simp only [Act.put, List.setIfInBounds_toArray, List.set_cons_zero, List.set_cons_succ]
        refine take_at 5 (some 48) (.agg #[.int .u8 d0.toNat, .int .u8 d1.toNat, .int .u8 d2.toNat, .int .u8 d3.toNat]) rfl rfl (by kernel_rfl) (by kernel_rfl) (by kernel_rfl) (fun _ _ _ h => h) (by rfl) (fun W hSw => by go_simp) B2 ?_
        simp only [Act.put, List.setIfInBounds_toArray, List.set_cons_zero, List.set_cons_succ]
        refine take_at 6 (some 49) (.agg #[.int .u8 0, .int .u8 0, .int .u8 0, .int .u8 0]) rfl rfl (by kernel_rfl) (by kernel_rfl) (by kernel_rfl) (fun _ _ _ h => h) (by rfl) (fun W hSw => by go_simp) B2 ?_
        simp only [Act.put, List.setIfInBounds_toArray, List.set_cons_zero, List.set_cons_succ]
        refine take_at 7 (some 50) (.bool true) rfl rfl (by kernel_rfl) (by kernel_rfl) (by kernel_rfl) (fun _ _ _ h => h) (by rfl) (fun W hSw => by go_simp) B2 ?_
        simp only [Act.put, List.setIfInBounds_toArray, List.set_cons_zero, List.set_cons_succ]
        refine wpAnyH_ready (rs := [1]) (by kernel_rfl) (by simp) ?_
        refine AllReadyH.cons rfl (fun K hK => ?_) AllReadyH.nil
        go_simp
        refine (sum_any _ _ _ la _ (ha2.later B2)).mono ?_
        rintro e w5 ⟨rfl, rfl⟩
        refine hK.out _ _ ?_ (fun _ => ?_)
        · exact B2
        clear hK K
        refine wpAnyH_ready (rs := [3]) (by kernel_rfl) (by simp) ?_
        refine AllReadyH.cons rfl (fun K hK => ?_) AllReadyH.nil
        go_simp
        refine (sum_c (hbs.later B2) HC.out).mono ?_
        rintro e w5 ⟨rfl, rfl⟩
        refine hK.out _ _ ?_ (fun _ => ?_)
        · exact B2
        clear hK K
        refine take_at 4 (some 47) (.bool true) rfl rfl (by kernel_rfl) (by kernel_rfl) (by kernel_rfl) (fun _ _ _ h => h) (by rfl) (fun W hSw => by go_simp) B2 ?_
        simp only [Act.put, List.setIfInBounds_toArray, List.set_cons_zero, List.set_cons_succ]
        refine take_at 8 (some 51) (.bool true) rfl rfl (by kernel_rfl) (by kernel_rfl) (by kernel_rfl) (fun _ _ _ h => h) (by rfl) (fun W hSw => by go_simp) B2 ?_
        simp only [Act.put, List.setIfInBounds_toArray, List.set_cons_zero, List.set_cons_succ]
        refine take_at 9 (some 6) (.bool true) rfl rfl (by kernel_rfl) (by kernel_rfl) (by kernel_rfl) (fun _ _ _ h => h) (by rfl) (fun W hSw => by go_simp) B2 ?_
        simp only [Act.put, List.setIfInBounds_toArray, List.set_cons_zero, List.set_cons_succ]
        refine wpAnyH_done (by kernel_rfl) ?_ _
        refine NoPanic.normal ?_
        go_wp2
        go_ret
        exact ⟨rfl, Below.chain hbelA (Below.chain hb B2)⟩
      · have hcrc : ¬ crc la = C2 := fun h => hz (htold.1 h)
        have heq1 : ∀ W : World, (Op.equalIn 10000 44 (.agg #[.int .u8 d0.toNat, .int .u8 d1.toNat, .int .u8 d2.toNat, .int .u8 d3.toNat]) (.agg #[.int .u8 0, .int .u8 0, .int .u8 0, .int .u8 0])).run Try.prog W = .ok false W := fun W => by
          rw [heq W]
          congr 1
          rw [beq_eq_false_iff_ne]
          intro h
          exact hz (by simpa using h)
        have hc1 : ((crc la : Int) == (C2 : Int)) = false := by
          rw [beq_eq_false_iff_ne]
          omega
        clear heq htold hz hcrc
        go_wp2
        refine wp_region_noPanic ?_
        refine wp_region_held_drew (S := fun W => Below wr.heap.size wr W) (by kernel_rfl) ?_ (fun _ => ?_)
        · exact B2
        refine take_at 0 (some 43) (.slice a0 n0 c0) rfl rfl (by kernel_rfl) (by kernel_rfl) (by kernel_rfl) (fun _ _ _ h => h) (by rfl) (fun W hSw => by go_simp) B2 ?_
        simp only [Act.put, List.setIfInBounds_toArray, List.set_cons_zero, List.set_cons_succ]
        refine take_at 2 (some 45) (.slice (some ⟨g, 0, none⟩) n0 c2) rfl rfl (by kernel_rfl) (by kernel_rfl) (by kernel_rfl) (fun _ _ _ h => h) (by rfl) (fun W hSw => by go_simp) B2 ?_
        simp only [Act.put, List.setIfInBounds_toArray, List.set_cons_zero, List.set_cons_succ]
        refine take_at 5 (some 48) (.agg #[.int .u8 d0.toNat, .int .u8 d1.toNat, .int .u8 d2.toNat, .int .u8 d3.toNat]) rfl rfl (by kernel_rfl) (by kernel_rfl) (by kernel_rfl) (fun _ _ _ h => h) (by rfl) (fun W hSw => by go_simp) B2 ?_
        simp only [Act.put, List.setIfInBounds_toArray, List.set_cons_zero, List.set_cons_succ]
        refine take_at 6 (some 49) (.agg #[.int .u8 0, .int .u8 0, .int .u8 0, .int .u8 0]) rfl rfl (by kernel_rfl) (by kernel_rfl) (by kernel_rfl) (fun _ _ _ h => h) (by rfl) (fun W hSw => by go_simp) B2 ?_
        simp only [Act.put, List.setIfInBounds_toArray, List.set_cons_zero, List.set_cons_succ]
        refine take_at 7 (some 50) (.bool false) rfl rfl (by kernel_rfl) (by kernel_rfl) (by kernel_rfl) (fun _ _ _ h => h) (by rfl) (fun W hSw => by go_simp) B2 ?_
        simp only [Act.put, List.setIfInBounds_toArray, List.set_cons_zero, List.set_cons_succ]
        refine wpAnyH_ready (rs := [1]) (by kernel_rfl) (by simp) ?_
        refine AllReadyH.cons rfl (fun K hK => ?_) AllReadyH.nil
        go_simp
        refine (sum_any _ _ _ la _ (ha2.later B2)).mono ?_
        rintro e w5 ⟨rfl, rfl⟩
        refine hK.out _ _ ?_ (fun _ => ?_)
        · exact B2
        clear hK K
        refine wpAnyH_ready (rs := [3]) (by kernel_rfl) (by simp) ?_
        refine AllReadyH.cons rfl (fun K hK => ?_) AllReadyH.nil
        go_simp
        refine (sum_c (hbs.later B2) HC.out).mono ?_
        rintro e w5 ⟨rfl, rfl⟩
        refine hK.out _ _ ?_ (fun _ => ?_)
        · exact B2
        clear hK K
        refine take_at 4 (some 47) (.bool false) rfl rfl (by kernel_rfl) (by kernel_rfl) (by kernel_rfl) (fun _ _ _ h => h) (by rfl) (fun W hSw => by go_simp) B2 ?_
        simp only [Act.put, List.setIfInBounds_toArray, List.set_cons_zero, List.set_cons_succ]
        refine take_at 8 (some 51) (.bool true) rfl rfl (by kernel_rfl) (by kernel_rfl) (by kernel_rfl) (fun _ _ _ h => h) (by rfl) (fun W hSw => by go_simp) B2 ?_
        simp only [Act.put, List.setIfInBounds_toArray, List.set_cons_zero, List.set_cons_succ]
        refine take_at 9 (some 6) (.bool true) rfl rfl (by kernel_rfl) (by kernel_rfl) (by kernel_rfl) (fun _ _ _ h => h) (by rfl) (fun W hSw => by go_simp) B2 ?_
        simp only [Act.put, List.setIfInBounds_toArray, List.set_cons_zero, List.set_cons_succ]
        refine wpAnyH_done (by kernel_rfl) ?_ _
        refine NoPanic.normal ?_
        go_wp2
        go_ret
        exact ⟨rfl, Below.chain hbelA (Below.chain hb B2)⟩

/-- WHAT THE WALK IS TOLD OF A SLICE OF INTEGERS THAT CAME IN: it is nil; or it leads to a row of 'cap' cells, the numbers 'zs' (the first 'len' are its elements, the rest its spare room), each fitting its kind. -/
def IsRow (k : IntKind) (w : World) (a : Option Addr) (len cap : Nat) (zs : List Int) : Prop :=
  (a = none ∧ len = 0 ∧ cap = 0 ∧ zs = []) ∨
  ∃ x, a = some x ∧ len ≤ cap ∧ cap ≤ maxLen ∧ zs.length = cap ∧ (∀ i, i < zs.length → w.cell? (x.add i) = some (.int k (zs.getD i 0))) ∧ ∀ n ∈ zs, (Lit.int k n).wf = true

/-- The bytes that the slice holds. -/
theorem IsRow.bytes {w : World} {a : Option Addr} {len cap : Nat} {zs : List Int} (h : IsRow .u8 w a len cap zs) : ∃ l, Bs w a len cap l := by
  rcases h with ⟨rfl, rfl, rfl, rfl⟩ | ⟨x, rfl, hl, hm, hz, hcell, hwz⟩
  · exact ⟨[], Bs.nil w⟩
  · have hb : ∀ j, j < cap → 0 ≤ zs.getD j 0 ∧ zs.getD j 0 ≤ 255 := fun j hj => by
      have hmem : zs.getD j 0 ∈ zs := by
        rw [List.getD_eq_getElem?_getD, List.getElem?_eq_getElem (show j < zs.length by omega)]
        exact List.getElem_mem _
      simpa [Lit.wf, IntKind.min, IntKind.max, IntKind.signed, IntKind.bits] using hwz _ hmem
    refine ⟨(zs.take len).map fun z => UInt8.ofNat z.toNat, by simp; omega, hl, hm, fun hp => ?_⟩
    obtain ⟨b, off, spot⟩ := x
    have hc := hcell 0 (by omega)
    have hspot : spot = none := by simpa [Addr.add] using World.cell?_spot hc
    subst hspot
    refine ⟨b, off, rfl, fun j hj => ?_⟩
    have h1 := hcell j (by omega)
    rw [Addr.add_lit] at h1
    have h2 := hb j (by omega)
    have e : (((zs.take len).map fun z => UInt8.ofNat z.toNat).getD j 0).toNat = (zs.getD j 0).toNat := by
      have : ((zs.take len).map fun z => UInt8.ofNat z.toNat).getD j 0 = UInt8.ofNat (zs.getD j 0).toNat := by
        simp [List.getD, List.getElem?_map, hj, List.getElem?_eq_getElem (show j < zs.length by omega)]
      rw [this, UInt8.toNat_ofNat']
      exact Nat.mod_eq_of_lt (by omega)
    rw [h1, e, Int.toNat_of_nonneg h2.1]


theorem walk_long (a0 : Option Addr) (n0 c0 : Nat) (t : Int) (d0 d1 d2 d3 : UInt8) (w : World) (hc : n0 ≤ c0) (hm : c0 ≤ maxLen) (h : n0 < 4 ∨ 300 < n0) :
    Calls Try.prog 6 #[.slice a0 n0 c0, .int .u16 t, .agg #[.int .u8 d0.toNat, .int .u8 d1.toNat, .int .u8 d2.toNat, .int .u8 d3.toNat]] w fun e w' => e = .returned (.bool true) ∧ Below w.heap.size w w' := by
  unfold maxLen at hm
  by_cases h2 : n0 < 4
  · have h2' : (n0 : Int) < 4 := by omega
    go_enter Try.func6, Try.ntmps6
    go_wp2_with fail
    refine (known_any _).mono ?_
    rintro e w1 ⟨rfl, hbel1⟩
    go_wp2
    go_ret
    exact ⟨rfl, Below.chain (bal (Below.refl _ _) _) hbel1⟩
  · have h2' : ¬ (n0 : Int) < 4 := by omega
    have h3' : (300 : Int) < (n0 : Int) := by omega
    go_enter Try.func6, Try.ntmps6
    go_wp2_with fail
    refine (known_any _).mono ?_
    rintro e w1 ⟨rfl, hbel1⟩
    go_wp2
    go_ret
    exact ⟨rfl, Below.chain (bal (Below.refl _ _) _) hbel1⟩

/-- A byte's number, as a byte. -/
theorem byte_of {x : Int} (h : (Lit.int .u8 x).wf = true) : ∃ d : UInt8, x = (d.toNat : Int) := by
  have hx : 0 ≤ x ∧ x ≤ 255 := by simpa [Lit.wf, IntKind.min, IntKind.max, IntKind.signed, IntKind.bits] using h
  refine ⟨UInt8.ofNat x.toNat, ?_⟩
  have : (UInt8.ofNat x.toNat).toNat = x.toNat := by
    rw [UInt8.toNat_ofNat']
    exact Nat.mod_eq_of_lt (by omega)
  rw [this, Int.toNat_of_nonneg hx.1]

theorem walk (a0 : Option Addr) (len0 cap0 : Nat) (z0 : List Int) (a1 : Int) (x0 x1 x2 x3 : Int) (w : World) (w0 : IsRow .u8 w a0 len0 cap0 z0) (w1 : (Lit.int .u16 a1).wf = true) (y0 : (Lit.int .u8 x0).wf = true) (y1 : (Lit.int .u8 x1).wf = true) (y2 : (Lit.int .u8 x2).wf = true) (y3 : (Lit.int .u8 x3).wf = true) :
    Calls Try.prog 6 #[.slice a0 len0 cap0, .int .u16 a1, .agg #[.int .u8 x0, .int .u8 x1, .int .u8 x2, .int .u8 x3]] w fun e w' => e = .returned (.bool true) ∧ Below w.heap.size w w' := by
  obtain ⟨la, ha⟩ := w0.bytes
  obtain ⟨d0, rfl⟩ := byte_of y0
  obtain ⟨d1, rfl⟩ := byte_of y1
  obtain ⟨d2, rfl⟩ := byte_of y2
  obtain ⟨d3, rfl⟩ := byte_of y3
  by_cases h : len0 < 4 ∨ 300 < len0
  · exact walk_long a0 len0 cap0 a1 d0 d1 d2 d3 w ha.2.1 ha.2.2.1 h
  · have hx : 0 ≤ a1 ∧ a1 ≤ 65535 := by simpa [Lit.wf, IntKind.min, IntKind.max, IntKind.signed, IntKind.bits] using w1
    obtain ⟨t, rfl⟩ := Int.eq_ofNat_of_zero_le hx.1
    exact walk_in a0 len0 cap0 t d0 d1 d2 d3 la w ha (by omega) (by omega) (by omega)

theorem cells44 : Try.prog.cellsOf 44 = 4 := by kernel_rfl
theorem cells5 : Try.prog.cellsOf 5 = 1 := by kernel_rfl
theorem list4 {α : Type} (l : List α) (h : l.length = 4) : ∃ a b c d, l = [a, b, c, d] := by
  match l, h with
  | [a, b, c, d], _ => exact ⟨a, b, c, d, rfl⟩

set_option maxRecDepth 100000 in
theorem lifted (os : Os) (started : os.Started) (H : Type) (enc : TypeId × Value → H) :
    ReturnsInHanded {} Try.checked os 6 .any (Rows.bitsTurnedSpec.pre6 enc Try.prog Try.f6 Rows.bitsTurnedRow.domain false) (Rows.bitsTurnedSpec.post enc Try.prog Try.f6 false true false false) := by
  refine returnsInHanded_of_change (C := Try.checked) own started (by kernel_rfl) Try.func6
    (ChangeSpec.witness6 (enc := enc) (C := Try.checked) false ⟨#[], #[.slice none 0 0, .int .u16 0, .agg #[.int .u8 0, .int .u8 0, .int .u8 0, .int .u8 0]], []⟩ 8 (by kernel_rfl) (by kernel_rfl) (by kernel_rfl) (by kernel_rfl)) ?_
  intro W base args ds gs before hval0 hW hcnd _
  have hval : ∀ (j : Nat) t v, Try.f6.params[j]? = some t → args[j]? = some v → Value.okWide Try.prog W .any base t v := hval0
  have hW' := hW
  obtain ⟨p, q, hA0, hV, rfl, hfz, hnd⟩ := hW
  have hA : DataW.TrodAll enc Try.prog W 0 (fun _ => true) true Try.f6.params.toList args.toList ds p := hA0
  rw [Try.params6] at hA hval
  obtain ⟨v0, vs0, d0, ds0, p0, q0, hargs, rfl, rfl, h0, r0⟩ := trodAll_cons hA
  obtain ⟨v1, vs1, d1, ds1, p1, q1, rfl, rfl, rfl, h1, r1⟩ := trodAll_cons r0
  obtain ⟨v2, vs2, d2, ds2, p2, q2, rfl, rfl, rfl, h2, r2⟩ := trodAll_cons r1
  obtain ⟨rfl, rfl, rfl⟩ := trodAll_nil r2
  obtain rfl : args = #[v0, v1, v2] := by cases args; simp_all
  obtain ⟨rfl, rfl⟩ := trodVars_none hV
  obtain ⟨a0, len0, cap0, rfl⟩ := okWide_slice Try.underlying22 (hval 0 22 v0 rfl rfl)
  have k0 := h0
  have lt0 : ∀ x ∈ p0, x.block < W.heap.size := by obtain ⟨m, hm⟩ := k0; exact DataW.trod_lt m _ _ _ hm
  obtain ⟨z0, w0⟩ : ∃ zs, IsRow .u8 W a0 len0 cap0 zs := by
    obtain ⟨fuel, hf⟩ := h0
    rcases open_ints Try.underlying22 Try.underlying5 (by kernel_rfl) hf with ⟨hcs, _⟩ | ⟨x, l, c, zs, hcs, _, hl, hm, hz, _, hcell, hwz⟩
    · simp [Value.cells] at hcs
      obtain ⟨rfl, rfl, rfl⟩ := hcs
      exact ⟨[], .inl ⟨rfl, rfl, rfl, rfl⟩⟩
    · simp [Value.cells] at hcs
      obtain ⟨rfl, rfl, rfl⟩ := hcs
      exact ⟨zs, .inr ⟨_, rfl, hl, hm, by simpa using hz, hcell, hwz⟩⟩
  obtain ⟨a1, rfl, rfl, rfl, w1⟩ := open_int Try.underlying43 (hval 1 43 v1 rfl rfl) h1
  have k2 := h2
  have lt2 : ∀ x ∈ p2, x.block < W.heap.size := by obtain ⟨m, hm⟩ := k2; exact DataW.trod_lt m _ _ _ hm
  obtain ⟨x0, x1, x2, x3, rfl, y0, y1, y2, y3⟩ : ∃ x0 x1 x2 x3 : Int, v2 = .agg #[.int .u8 x0, .int .u8 x1, .int .u8 x2, .int .u8 x3] ∧ (Lit.int .u8 x0).wf = true ∧ (Lit.int .u8 x1).wf = true ∧ (Lit.int .u8 x2).wf = true ∧ (Lit.int .u8 x3).wf = true := by
    obtain ⟨cs, rfl, hsz, _⟩ : ∃ cs, v2 = .agg cs ∧ cs.size = Try.prog.cellsOf 44 ∧ Row.okWide Try.prog W .any base 44 cs := by
      have := hval 2 44 v2 rfl rfl
      simpa [Value.okWide, Try.underlying44] using this
    rw [cells44] at hsz
    obtain ⟨l⟩ := cs
    obtain ⟨e0, e1, e2, e3, rfl⟩ := list4 l hsz
    obtain ⟨fuel, hf⟩ := h2
    obtain ⟨xs, m, _, _, _, hl, hel⟩ := DataW.trod_array Try.underlying44 hf
    rw [cells5] at hel
    have get : ∀ i, i < 4 → ∃ y, xs[i]? = some y := fun i hi => ⟨xs[i]'(by omega), List.getElem?_eq_getElem (by omega)⟩
    obtain ⟨g0, hg0⟩ := get 0 (by omega)
    obtain ⟨g1, hg1⟩ := get 1 (by omega)
    obtain ⟨g2, hg2⟩ := get 2 (by omega)
    obtain ⟨g3, hg3⟩ := get 3 (by omega)
    obtain ⟨x0, f0, _, y0⟩ := DataW.trod_int Try.underlying5 ((hel 0 (by omega)).trans hg0)
    obtain ⟨x1, f1, _, y1⟩ := DataW.trod_int Try.underlying5 ((hel 1 (by omega)).trans hg1)
    obtain ⟨x2, f2, _, y2⟩ := DataW.trod_int Try.underlying5 ((hel 2 (by omega)).trans hg2)
    obtain ⟨x3, f3, _, y3⟩ := DataW.trod_int Try.underlying5 ((hel 3 (by omega)).trans hg3)
    simp [Value.cells] at f0 f1 f2 f3
    subst f0 f1 f2 f3
    exact ⟨x0, x1, x2, x3, rfl, y0, y1, y2, y3⟩
  clear hA0 hval0
  refine (walk a0 len0 cap0 z0 a1 x0 x1 x2 x3 W w0 w1 y0 y1 y2 y3).mono fun e W' ⟨he, bel⟩ => ?_
  subst he
  exact ⟨_, rfl, _, _, _, [], _, [], hW', trodAll_mk1 (shut_bool Try.underlying4 _), (trodAll_cons_mk (Below.trod laidOut (by kernel_rfl) (of_decide_eq_true (by kernel_rfl)) k0 bel lt0) (trodAll_cons_mk (shut_int Try.underlying43 w1) (trodAll_cons_mk (Below.trod laidOut (by kernel_rfl) (of_decide_eq_true (by kernel_rfl)) k2 bel lt2) trodAll_mk0))), rfl, bel.frame _, fun h => by cases h⟩

theorem over : Rows.bitsTurnedRow.holds Try.pinned (OpenSpec.ofChange Rows.bitsTurnedSpec) :=
  OpenClaim.holds_of_wide 6 Try.f6 rfl rfl rfl rfl rfl rfl rfl ⟨rfl, rfl, rfl, rfl, rfl⟩ rfl rfl rfl rfl rfl (by kernel_rfl) Try.func6 (by kernel_rfl)
    (of_decide_eq_true (by kernel_rfl)) (by unfold Func.isWrapper; first | (rw [if_pos (by decide +kernel)]; kernel_rfl) | (rw [if_neg (by decide +kernel)]; exact ⟨rfl, rfl⟩))
    (fun os started H enc _ => lifted os started H enc)

/-- The statement. -/
theorem proved : Rows.BitsTurnedSaid := over
#print axioms proved

end Go.Proofs.Yteajcgodfbaeiaa.bitsTurned
