/- Texts that the others lean on. -/
import Derived.Test.YtjlaihekocjggaaGreatDoorKQRKn
namespace Go.Proofs.YtjlaihekocjggaaGreatDoor
open Go.RowKit
theorem pz_any (s:Str) (a y:Int) (w:World) (hs:s.length ≤ 1000000) (h:(pF s).2 = (a,y)) (he:Ev w) (het:Et w):Calls Tryz.prog 24 #[tx s] w fun e w'=>∃ cs,e = .returned (.tuple #[.agg cs,.int .i64 a,.int .i64 y]) ∧ Row 2 cs ∧ Below w.heap.size w w':=by
 refine (zet s w hs he het).mono ?_
 rintro e w' ⟨cs,rfl,cf,b⟩
 exact ⟨cs,by rw [h],cf.row,b⟩
end Go.Proofs.YtjlaihekocjggaaGreatDoor
