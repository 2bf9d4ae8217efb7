
/- Cmp: for every argument. -/
import Derived.Test.YtchopogodfghoaaSum
namespace Go.Proofs.Ytchopogodfghoaa
open Go.RowKit

end Go.Proofs.Ytchopogodfghoaa
