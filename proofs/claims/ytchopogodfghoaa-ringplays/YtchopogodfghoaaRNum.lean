/- Small facts of numbers. -/
import Derived.Test.YtchopogodfghoaaROpen
import Derived.Test.YtchopogodfghoaaRKnown
namespace Go.Proofs.Ytchopogodfghoaa
open Go.RowKit

theorem wf64 {x : Int} (h0 : -9223372036854775808 ≤ x) (h1 : x ≤ 9223372036854775807) : wrap64 x = x := by unfold wrap64; omega
theorem onw_to {a b : Int} (h : a ≤ b) (h1 : b ≤ 1000000) : onw a b = b := by unfold onw; omega
theorem fOf_small (x : Int) (h0 : -100000 ≤ x) (h1 : x ≤ 100000) : fOf x = some (x * 1000000) := by
  unfold fOf norm
  rw [if_pos (by omega)]
end Go.Proofs.Ytchopogodfghoaa
