/- known: the document's own examples come out as they are told. -/
import Derived.Test.YtibdlcegmepbcabDoorParse
import Derived.Test.YtibdlcegmepbcabDoorMul
namespace Go.Proofs.YtibdlcegmepbcabDoor
open Go.RowKit

theorem ex_parse1 : fParse [45, 48, 46, 53] = some (some (-500000)) := by decide +kernel
theorem ex_parse2 : fParse [48, 49] = none := by decide +kernel
theorem ex_of1 : fOf 1 = some 1000000 := by decide +kernel
theorem ex_of3 : fOf 3 = some 3000000 := by decide +kernel
theorem ex_div : fDiv (some 1000000) (some 3000000) = some 333333 := by decide +kernel
theorem dec7 : Lib.decDigits 1333333 = [49, 51, 51, 51, 51, 51, 51] := by
  simp [Lib.decDigits]
theorem ex_print : fPrint (some 333333) = [48, 46, 51, 51, 51, 51, 51, 51] := by
  have e1 : Lib.decDigits 0 = [48] := by simp [Lib.decDigits]
  have e2 : fracT 333333 = [51, 51, 51, 51, 51, 51] := by
    unfold fracT
    rw [dec7]
    decide +kernel
  show (if (333333 : Int) < 0 then [45] else []) ++ prU 333333 = _
  unfold prU
  rw [if_neg (by decide), if_neg (by decide)]
  rw [show 333333 / 1000000 = 0 from rfl, show 333333 % 1000000 = 333333 from rfl, e1, e2]
  rfl
theorem ex_cnt (n : Int) (h : -9223372036854775807 ≤ n) : cnt false n = some n := by
  unfold cnt
  rw [if_neg (by intro e; rcases e with e | e; cases e; omega)]

theorem known_parse1 (w : World) : Calls Tryd.prog 15 #[.string ⟨#[45, 48, 46, 53]⟩] w fun e w' => e = .returned (.tuple #[.agg #[.bool false, .int .i64 (-500000)], .int .i64 0]) ∧ Below w.heap.size w w' := by
  have h := parse_any [45, 48, 46, 53] w (by decide)
  rw [ex_parse1] at h
  exact h
theorem known_parse2 (w : World) : Calls Tryd.prog 15 #[.string ⟨#[48, 49]⟩] w fun e w' => e = .returned (.tuple #[.agg #[.bool false, .int .i64 0], .int .i64 20]) ∧ Below w.heap.size w w' := by
  have h := parse_any [48, 49] w (by decide)
  rw [ex_parse2] at h
  exact h
theorem known_of1 (w : World) : Calls Tryd.prog 13 #[.int .i64 1] w fun e w' => e = .returned (.agg #[.bool false, .int .i64 1000000]) ∧ Below w.heap.size w w' := by
  have h := of_any 1 w ⟨by decide, by decide⟩
  rw [ex_of1] at h
  exact h
theorem known_of3 (w : World) : Calls Tryd.prog 13 #[.int .i64 3] w fun e w' => e = .returned (.agg #[.bool false, .int .i64 3000000]) ∧ Below w.heap.size w w' := by
  have h := of_any 3 w ⟨by decide, by decide⟩
  rw [ex_of3] at h
  exact h
theorem known_div (w : World) : Calls Tryd.prog 11 #[.agg #[.bool false, .int .i64 1000000], .agg #[.bool false, .int .i64 3000000]] w fun e w' => e = .returned (.agg #[.bool false, .int .i64 333333]) ∧ Below w.heap.size w w' := by
  have h := quo_any false false 1000000 3000000 w ⟨by decide, by decide⟩ ⟨by decide, by decide⟩
  rw [ex_cnt _ (by decide), ex_cnt _ (by decide), ex_div] at h
  exact h
theorem known_print (w : World) (ht : Tab Tryd.prog w) : Calls Tryd.prog 14 #[.agg #[.bool false, .int .i64 333333]] w fun e w' => e = .returned (.string ⟨#[48, 46, 51, 51, 51, 51, 51, 51]⟩) ∧ Below w.heap.size w w' := by
  have h := print_any false 333333 w ⟨by decide, by decide⟩ ht
  rw [ex_cnt _ (by decide), ex_print] at h
  exact h
theorem known_div0 (w : World) : Calls Tryd.prog 11 #[.agg #[.bool false, .int .i64 (-500000)], .agg #[.bool false, .int .i64 0]] w fun e w' => e = .returned (.agg #[.bool true, .int .i64 0]) ∧ Below w.heap.size w w' := by
  have h := quo_any false false (-500000) 0 w ⟨by decide, by decide⟩ ⟨by decide, by decide⟩
  rw [ex_cnt _ (by decide), ex_cnt _ (by decide)] at h
  exact h
theorem known_cmp (w : World) : Calls Tryd.prog 16 #[.agg #[.bool true, .int .i64 0], .agg #[.bool false, .int .i64 (-500000)]] w fun e w' => e = .returned (.int .i64 1) ∧ Below w.heap.size w w' := by
  have h := cmp_any true false 0 (-500000) w ⟨by decide, by decide⟩ ⟨by decide, by decide⟩
  rw [ex_cnt _ (by decide)] at h
  exact h
theorem known_sum (w : World) : Calls Tryd.prog 12 #[.slice none 0 0] w fun e w' => e = .returned (.agg #[.bool false, .int .i64 0]) ∧ Below w.heap.size w w' := by
  have h := sum_any none 0 0 [] w (by decide) (Ns.nil w) (by intro x hx; cases hx)
  exact h

theorem field_ovf (o : Bool) (n : Int) (w : World) : (Instr.field 24 (.agg #[.bool o, .int .i64 n]) 0).run Tryd.prog w = .ok (.bool o) w := by kernel_rfl
set_option maxHeartbeats 1000000 in
theorem known_any (w : World) (ht : Tab Tryd.prog w) : Calls Tryd.prog 5 #[] w fun e w' => e = .returned (.bool true) ∧ Below w.heap.size w w' := by
  have hfd := field_ovf
  go_enter Tryd.func5, Tryd.ntmps5
  go_wp2_with fail
  refine (known_parse1 _).mono ?_
  rintro e w1 ⟨rfl, hb1⟩
  go_wp2_with fail
  refine (known_parse2 _).mono ?_
  rintro e w2 ⟨rfl, hb2⟩
  have hx := ((Box.new w1 false (-500000)).later hb2).later (bal (Below.refl _ _) (.cells #[.bool false, .int .i64 0] 24))
  have hb3 := bal (Below.chain (bal hb1 _) hb2) (.cells #[.bool false, .int .i64 0] 24)
  obtain ⟨c0, c1, _, _⟩ := id hx
  go_wp2_with fail
  refine (known_of1 _).mono ?_
  rintro e w3 ⟨rfl, hb4⟩
  go_wp2_with fail
  refine (known_of3 _).mono ?_
  rintro e w4 ⟨rfl, hb5⟩
  go_wp2_with fail
  refine (known_div _).mono ?_
  rintro e w5 ⟨rfl, hb6⟩
  have hb7 := Below.chain (Below.chain hb4 hb5) hb6
  have hb8 := Below.chain hb3 hb7
  have hx5 := hx.later hb7
  clear c0 c1 hb4 hb5 hb6 hb7 hb3 hx hb1 hb2
  go_wp2_with fail
  refine (known_print _ (ht.later hb8)).mono ?_
  rintro e w6 ⟨rfl, hb9⟩
  have hx6 := hx5.later hb9
  have hb10 := Below.chain hb8 hb9
  obtain ⟨c0, c1, _, _⟩ := id hx6
  go_wp2_with fail
  refine (known_div0 _).mono ?_
  rintro e w7 ⟨rfl, hb11⟩
  have hx7 := hx6.later hb11
  have hb12 := Below.chain hb10 hb11
  clear c0 c1
  obtain ⟨c0, c1, _, _⟩ := id hx7
  go_wp2_with fail
  refine (known_cmp _).mono ?_
  rintro e w8 ⟨rfl, hb13⟩
  have hb14 := Below.chain hb12 hb13
  go_wp2_with fail
  refine (known_sum _).mono ?_
  rintro e w9 ⟨rfl, hb15⟩
  go_wp2
  go_ret
  exact ⟨rfl, Below.chain hb14 hb15⟩
end Go.Proofs.YtibdlcegmepbcabDoor
