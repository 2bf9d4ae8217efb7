/- ExtremeSlides: both ways. -/
import Derived.Test.YtpemknkkignmcaaESlU
import Derived.Test.YtpemknkkignmcaaESlD
namespace Go.Proofs.Ytpemknkkignmcaa
open Go.RowKit

theorem slides_any (N M : Nat) (fl : Bool) (w : World) (hN : N ≤ 255) (hM : M ≤ 255) :
    Calls Try.prog 4 #[.int .u8 N, .int .u8 M, .bool fl] w fun e w' => e = .returned (.bool true) ∧ Below w.heap.size w w' := by
  cases fl with
  | false => exact slides_up N M w hN hM
  | true => exact slides_dn N M w hN hM
end Go.Proofs.Ytpemknkkignmcaa
