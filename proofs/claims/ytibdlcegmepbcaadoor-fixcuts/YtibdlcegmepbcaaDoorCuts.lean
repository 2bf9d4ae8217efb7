/- FixCuts: the walk. -/
import Derived.Test.YtibdlcegmepbcaaDoorKnown
import Derived.BigQuiet
namespace Go.Proofs.YtibdlcegmepbcaaDoor
open Go.RowKit

theorem prod_bound {a b : Int} (ha0 : -2147483648 ≤ a) (ha1 : a ≤ 2147483647) (hb0 : -2147483648 ≤ b) (hb1 : b ≤ 2147483647) : (a * b).natAbs ≤ 4611686018427387904 := by
  rw [Int.natAbs_mul]
  exact Nat.mul_le_mul (by omega : a.natAbs ≤ 2147483648) (by omega : b.natAbs ≤ 2147483648)
theorem tdiv_abs (x y : Int) : (x.tdiv y).natAbs ≤ x.natAbs := by
  rw [Int.natAbs_tdiv]
  exact Nat.div_le_self _ _
theorem norm_in {x : Int} (h : x.natAbs ≤ 9223372036854775807) : norm x = some x := by
  unfold norm
  rw [if_pos (by omega)]

set_option maxHeartbeats 2000000 in
theorem cuts_walk (a b : Int) (ha0 : -2147483648 ≤ a) (ha1 : a ≤ 2147483647) (hb0 : -2147483648 ≤ b) (hb1 : b ≤ 2147483647) (w : World) (ht : Tab Tryd.prog w) :
    Calls Tryd.prog 8 #[.int .i32 a, .int .i32 b] w fun e w' => e = .returned (.bool true) ∧ Below w.heap.size w w' := by
  have hab := prod_bound ha0 ha1 hb0 hb1
  have hm := fun w => mul_any false false a b w ⟨by omega, by omega⟩ ⟨by omega, by omega⟩
  rw [ex_cnt _ (by omega), ex_cnt _ (by omega)] at hm
  have hd := fun w => quo_any false false a b w ⟨by omega, by omega⟩ ⟨by omega, by omega⟩
  rw [ex_cnt _ (by omega), ex_cnt _ (by omega)] at hd
  have em : fMul (some a) (some b) = some ((a * b).tdiv 1000000) := norm_in (by have := tdiv_abs (a * b) 1000000; omega)
  rw [em] at hm
  have hm' : ∀ w, Calls Tryd.prog 18 #[.agg #[.bool false, .int .i64 a], .agg #[.bool false, .int .i64 b]] w fun e w' => e = .returned (.agg #[.bool false, .int .i64 ((a * b).tdiv 1000000)]) ∧ Below w.heap.size w w' := hm
  have hw1 : wrap64 (a * b) = a * b := by unfold wrap64; omega
  have hw2 : wrap64 ((a * b).tdiv 1000000) = (a * b).tdiv 1000000 := by have := tdiv_abs (a * b) 1000000; unfold wrap64; omega
  generalize hP : (a * b).tdiv 1000000 = P at *
  have HP : Hid _ := hP
  clear em hm hab
  by_cases hbz : b = 0
  · subst hbz
    obtain rfl : 0 = P := by rw [← HP.out]; simp
    have hd' : ∀ w, Calls Tryd.prog 20 #[.agg #[.bool false, .int .i64 a], .agg #[.bool false, .int .i64 0]] w fun e w' => e = .returned (.agg #[.bool true, .int .i64 0]) ∧ Below w.heap.size w w' := hd
    clear hd
    go_enter Tryd.func8, Tryd.ntmps8
    go_wp2_with fail
    refine (known_any _ ht).mono ?_
    rintro e w1 ⟨rfl, hb1'⟩
    obtain ⟨hx, hy, hbx⟩ := boxes2 w1 false false a 0
    go_wp2_with fail
    refine (hm' _).mono ?_
    rintro e w2 ⟨rfl, hb2⟩
    have hb3 := bal (Below.refl _ w2) (.cells #[.bool false, .int .i64 0] 23)
    have hx3 := (hx.later hb2).later hb3
    have hy3 := (hy.later hb2).later hb3
    have hb4 := bal (Below.chain (Below.chain hb1' hbx) hb2) (.cells #[.bool false, .int .i64 0] 23)
    obtain ⟨c0, c1, _, _⟩ := id hx3
    obtain ⟨d0, d1, _, _⟩ := id hy3
    go_wp2_with fail
    refine (hd' _).mono ?_
    rintro e w3 ⟨rfl, hb5⟩
    go_wp2
    go_ret
    exact ⟨rfl, bal (Below.chain hb4 hb5) _⟩
  · have hq : (a * 1000000).natAbs ≤ 2147483648000000 := by omega
    have ed : fDiv (some a) (some b) = some ((a * 1000000).tdiv b) := by
      show (if b = 0 then none else _) = _
      rw [if_neg hbz]
      exact norm_in (by have := tdiv_abs (a * 1000000) b; omega)
    rw [ed] at hd
    have hd' : ∀ w, Calls Tryd.prog 20 #[.agg #[.bool false, .int .i64 a], .agg #[.bool false, .int .i64 b]] w fun e w' => e = .returned (.agg #[.bool false, .int .i64 ((a * 1000000).tdiv b)]) ∧ Below w.heap.size w w' := hd
    have hw3 : wrap64 ((a * 1000000).tdiv b) = (a * 1000000).tdiv b := by have := tdiv_abs (a * 1000000) b; unfold wrap64; omega
    generalize hR : (a * 1000000).tdiv b = R at *
    have HR : Hid _ := hR
    clear ed hd
    go_enter Tryd.func8, Tryd.ntmps8
    go_wp2_with fail
    refine (known_any _ ht).mono ?_
    rintro e w1 ⟨rfl, hb1'⟩
    obtain ⟨hx, hy, hbx⟩ := boxes2 w1 false false a b
    go_wp2_with fail
    refine (hm' _).mono ?_
    rintro e w2 ⟨rfl, hb2⟩
    have hb3 := bal (Below.refl _ w2) (.cells #[.bool false, .int .i64 P] 23)
    have hx3 := (hx.later hb2).later hb3
    have hy3 := (hy.later hb2).later hb3
    have hb4 := bal (Below.chain (Below.chain hb1' hbx) hb2) (.cells #[.bool false, .int .i64 P] 23)
    obtain ⟨c0, c1, _, _⟩ := id hx3
    obtain ⟨d0, d1, _, _⟩ := id hy3
    go_wp2_with fail
    refine (hd' _).mono ?_
    rintro e w3 ⟨rfl, hb5⟩
    go_wp2_with fail
    go_quiet (fail)
    go_wp2
    go_ret
    exact ⟨rfl, below_drewN (bal (Below.chain hb4 hb5) _) _⟩
end Go.Proofs.YtibdlcegmepbcaaDoor
namespace Go.Proofs.YtibdlcegmepbcaaDoor
open Go.RowKit
theorem cuts_row (a b : Int) (ha : -2147483648 ≤ a ∧ a ≤ 2147483647) (hb : -2147483648 ≤ b ∧ b ≤ 2147483647) (w : World) (ht : Tab Tryd.prog w) :
    Calls Tryd.prog 8 #[.int .i32 a, .int .i32 b] w fun e w' => e = .returned (.bool true) ∧ Below w.heap.size w w' := cuts_walk a b ha.1 ha.2 hb.1 hb.2 w ht
end Go.Proofs.YtibdlcegmepbcaaDoor
