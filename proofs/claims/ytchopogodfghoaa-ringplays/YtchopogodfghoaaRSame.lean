/- same: of two slices that read alike. -/
import Derived.Test.YtchopogodfghoaaRNum
namespace Go.Proofs.Ytchopogodfghoaa
open Go.RowKit

set_option maxHeartbeats 2000000 in
theorem same_any (ao bo : Option Addr) (n ca cb : Nat) (l : List Smp) (w : World) (hn : n ≤ 1000) (ha : Ms w ao n l) (hb : Ms w bo n l) :
    Calls Try.prog 16 #[.slice ao n ca, .slice bo n cb] w fun e w' => e = .returned (.bool true) ∧ Below w.heap.size w w' := by
  obtain ⟨_, hca⟩ := ha
  obtain ⟨_, hcb⟩ := hb
  have HA : Hid _ := hca
  have HB : Hid _ := hcb
  clear hca hcb
  go_enter Try.func16, Try.ntmps16
  go_wp2
  go_loopw [5] (fun i wr => ∃ j : Nat, j ≤ n ∧ i = .int .i64 j ∧ Below w.heap.size w wr) (fun i _ => n - (intOf i).toNat)
  case atStart => exact ⟨0, by omega, rfl, Below.refl _ _⟩
  case round =>
    obtain ⟨j, hj, rfl, hbw⟩ := hrel
    by_cases hlt : j < n
    · have hd : decide ((j : Int) < (n : Int)) = true := decide_eq_true (by omega)
      obtain ⟨b1, o1, rfl, h1⟩ := HA.out (by omega)
      obtain ⟨b2, o2, rfl, h2⟩ := HB.out (by omega)
      obtain ⟨c0, c1, c2⟩ := h1 j hlt
      obtain ⟨d0, d1, d2⟩ := h2 j hlt
      have x0 := (hbw.cell (World.block_lt_of_cell? _ _ c0)).trans c0
      have x1 := (hbw.cell (World.block_lt_of_cell? _ _ c1)).trans c1
      have x2 := (hbw.cell (World.block_lt_of_cell? _ _ c2)).trans c2
      have y0 := (hbw.cell (World.block_lt_of_cell? _ _ d0)).trans d0
      have y1 := (hbw.cell (World.block_lt_of_cell? _ _ d1)).trans d1
      have y2 := (hbw.cell (World.block_lt_of_cell? _ _ d2)).trans d2
      clear h1 h2 c0 c1 c2 d0 d1 d2 HA HB
      generalize l.getD j s0 = s at *
      obtain ⟨t, o, m⟩ := s
      dsimp only at *
      go_wp2_with fail
      go_quiet (fail)
      go_wp2
      go_roundw
      case rel => exact ⟨j + 1, by omega, by go_num, below_drewN hbw _⟩
      case measure => simp [intOf]; omega
    · have hd : decide ((j : Int) < (n : Int)) = false := decide_eq_false (by omega)
      go_wp2
      go_ret
      exact ⟨rfl, hbw⟩
end Go.Proofs.Ytchopogodfghoaa
