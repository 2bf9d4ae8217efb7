/- FixLaws: the walk where one is no number, and all together. -/
import Derived.Test.YtibdlcegmepbcaaDoorLaws
namespace Go.Proofs.YtibdlcegmepbcaaDoor
open Go.RowKit

set_option maxHeartbeats 1000000 in
theorem laws_row (o : Bool) (n : Int) (p : Bool) (m : Int) (q : Bool) (k : Int) (hn : R64 n) (hm : R64 m) (hk : R64 k) (w : World) (ht : Tab Tryd.prog w) :
    Calls Tryd.prog 6 #[.agg #[.bool o, .int .i64 n], .agg #[.bool p, .int .i64 m], .agg #[.bool q, .int .i64 k]] w fun e w' => e = .returned (.bool true) ∧ Below w.heap.size w w' := by
  by_cases hall : fIs o n = true ∧ fIs p m = true ∧ fIs q k = true
  · exact laws_in o n p m q k hn hm hk hall.1 hall.2.1 hall.2.2 w ht
  · obtain ⟨hx0, hy0, hz00, hb0⟩ := boxes3 w o p q n m k
    have hz0 : Box _ (w.heap.size + 1 + 1) q k := hz00
    clear hz00
    cases i1 : fIs o n with
    | false =>
      go_enter Tryd.func6, Tryd.ntmps6
      go_wp2_with fail
      generalize ((w.alloc (.cells #[.bool o, .int .i64 n] 23)).alloc (.cells #[.bool p, .int .i64 m] 23)).alloc (.cells #[.bool q, .int .i64 k] 23) = w0 at *
      refine (known_any _ (ht.later hb0)).mono ?_
      rintro e wk ⟨rfl, hbk⟩
      obtain ⟨x0, x1, _, _⟩ := hx0.later hbk
      go_wp2_with fail
      refine (is_any _ _ _).mono ?_
      rintro e w3 ⟨rfl, hb3⟩
      rw [i1]
      go_wp2
      go_ret
      exact ⟨rfl, Below.chain (Below.chain hb0 hbk) hb3⟩
    | true =>
      cases i2 : fIs p m with
      | false =>
        go_enter Tryd.func6, Tryd.ntmps6
        go_wp2_with fail
        generalize ((w.alloc (.cells #[.bool o, .int .i64 n] 23)).alloc (.cells #[.bool p, .int .i64 m] 23)).alloc (.cells #[.bool q, .int .i64 k] 23) = w0 at *
        refine (known_any _ (ht.later hb0)).mono ?_
        rintro e wk ⟨rfl, hbk⟩
        obtain ⟨x0, x1, _, _⟩ := hx0.later hbk
        go_wp2_with fail
        refine (is_any _ _ _).mono ?_
        rintro e w3 ⟨rfl, hb3⟩
        rw [i1]
        obtain ⟨y0, y1, _, _⟩ := (hy0.later hbk).later hb3
        go_wp2_with fail
        refine (is_any _ _ _).mono ?_
        rintro e w4 ⟨rfl, hb4⟩
        rw [i2]
        go_wp2
        go_ret
        exact ⟨rfl, Below.chain (Below.chain (Below.chain hb0 hbk) hb3) hb4⟩
      | true =>
        have i3 : fIs q k = false := by
          cases h : fIs q k with
          | false => rfl
          | true => exact absurd ⟨i1, i2, h⟩ hall
        clear hall
        go_enter Tryd.func6, Tryd.ntmps6
        go_wp2_with fail
        generalize ((w.alloc (.cells #[.bool o, .int .i64 n] 23)).alloc (.cells #[.bool p, .int .i64 m] 23)).alloc (.cells #[.bool q, .int .i64 k] 23) = w0 at *
        refine (known_any _ (ht.later hb0)).mono ?_
        rintro e wk ⟨rfl, hbk⟩
        obtain ⟨x0, x1, _, _⟩ := hx0.later hbk
        go_wp2_with fail
        refine (is_any _ _ _).mono ?_
        rintro e w3 ⟨rfl, hb3⟩
        rw [i1]
        obtain ⟨y0, y1, _, _⟩ := (hy0.later hbk).later hb3
        go_wp2_with fail
        refine (is_any _ _ _).mono ?_
        rintro e w4 ⟨rfl, hb4⟩
        rw [i2]
        obtain ⟨z0, z1, _, _⟩ := ((hz0.later hbk).later hb3).later hb4
        go_wp2_with fail
        refine (is_any _ _ _).mono ?_
        rintro e w5 ⟨rfl, hb5⟩
        rw [i3]
        go_wp2
        go_ret
        exact ⟨rfl, Below.chain (Below.chain (Below.chain (Below.chain hb0 hbk) hb3) hb4) hb5⟩
end Go.Proofs.YtibdlcegmepbcaaDoor
