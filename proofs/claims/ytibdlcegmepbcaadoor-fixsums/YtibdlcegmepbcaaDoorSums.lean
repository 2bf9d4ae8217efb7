/- FixSums: the walk. -/
import Derived.Test.YtibdlcegmepbcaaDoorRefSum
import Derived.Test.YtibdlcegmepbcaaDoorKnown
namespace Go.Proofs.YtibdlcegmepbcaaDoor
open Go.RowKit

theorem Ns.laterS {w w' : World} {ao : Option Addr} {n : Nat} {l : List (Bool × Int)} (h : Ns w ao n l) (hb : Below w.heap.size w w') : Ns w' ao n l := by
  refine ⟨h.1, fun hp => ?_⟩
  obtain ⟨b, off, e, hc⟩ := h.2 hp
  refine ⟨b, off, e, fun j hj => ?_⟩
  obtain ⟨c0, c1⟩ := hc j hj
  exact ⟨(hb.cell (World.block_lt_of_cell? _ _ c0)).trans c0, (hb.cell (World.block_lt_of_cell? _ _ c1)).trans c1⟩

set_option maxHeartbeats 1000000 in
theorem sums_row (ao : Option Addr) (n cap : Nat) (l : List (Bool × Int)) (w : World) (hm : n ≤ maxLen) (hs : Ns w ao n l) (hl : ∀ x ∈ l, -9223372036854775808 ≤ x.2 ∧ x.2 ≤ 9223372036854775807) (ht : Tab Tryd.prog w) :
    Calls Tryd.prog 4 #[.slice ao n cap] w fun e w' => e = .returned (.bool true) ∧ Below w.heap.size w w' := by
  unfold maxLen at hm
  by_cases h : n ≤ 100
  · have h' : ¬ (100 : Int) < (n : Int) := by omega
    go_enter Tryd.func4, Tryd.ntmps4
    go_wp2_with fail
    refine (known_any _ ht).mono ?_
    rintro e w1 ⟨rfl, hb1⟩
    go_wp2_with fail
    refine (sum_any _ _ _ l _ (by omega) (hs.laterS hb1) hl).mono ?_
    rintro e w2 ⟨rfl, hb2⟩
    go_wp2_with fail
    refine (rsum_any _ _ _ l _ h (hs.laterS (Below.chain hb1 hb2)) hl).mono ?_
    rintro e w3 ⟨rfl, hb3⟩
    generalize ov (fSum (cnts l)) = o at *
    generalize nn (fSum (cnts l)) = m at *
    go_wp2
    go_ret
    exact ⟨by simp, Below.chain (Below.chain hb1 hb2) hb3⟩
  · have h' : (100 : Int) < (n : Int) := by omega
    go_enter Tryd.func4, Tryd.ntmps4
    go_wp2_with fail
    refine (known_any _ ht).mono ?_
    rintro e w1 ⟨rfl, hb1⟩
    go_wp2
    go_ret
    exact ⟨rfl, hb1⟩
end Go.Proofs.YtibdlcegmepbcaaDoor
