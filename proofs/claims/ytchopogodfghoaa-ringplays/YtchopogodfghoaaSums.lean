
/- FixSums: the walk. -/
import Derived.Test.YtchopogodfghoaaRefSum
import Derived.Test.YtchopogodfghoaaKn
namespace Go.Proofs.Ytchopogodfghoaa
open Go.RowKit

theorem Ns.laterS {w w' : World} {ao : Option Addr} {n : Nat} {l : List (Bool × Int)} (h : Ns w ao n l) (hb : Below w.heap.size w w') : Ns w' ao n l := by
  refine ⟨h.1, fun hp => ?_⟩
  obtain ⟨b, off, e, hc⟩ := h.2 hp
  refine ⟨b, off, e, fun j hj => ?_⟩
  obtain ⟨c0, c1⟩ := hc j hj
  exact ⟨(hb.cell (World.block_lt_of_cell? _ _ c0)).trans c0, (hb.cell (World.block_lt_of_cell? _ _ c1)).trans c1⟩

end Go.Proofs.Ytchopogodfghoaa
