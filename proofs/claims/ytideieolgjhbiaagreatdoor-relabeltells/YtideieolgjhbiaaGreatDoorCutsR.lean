/- Texts cut and put together. -/
import Derived.Test.YtideieolgjhbiaaGreatDoorRefC
namespace Go.Proofs.YtideieolgjhbiaaGreatDoor
open Go.RowKit

theorem cut_to (P : Str) (p : Nat) : (⟨P.toArray⟩ : ByteArray).extract 0 p = ⟨(P.take p).toArray⟩ := by
  rw [Lib.extract_eq]
  congr 2
end Go.Proofs.YtideieolgjhbiaaGreatDoor
