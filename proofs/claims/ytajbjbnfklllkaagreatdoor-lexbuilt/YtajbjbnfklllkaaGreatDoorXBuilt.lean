/- LexBuilt: for every numbers and text. -/
import Derived.Test.YtajbjbnfklllkaaGreatDoorXBuiltS
import Derived.Test.YtajbjbnfklllkaaGreatDoorXBuiltL
namespace Go.Proofs.YtajbjbnfklllkaaGreatDoor
open Go.RowKit

theorem built_any (n d : Nat) (t : Str) (g : Nat) (w : World) (hn : n ≤ 4294967295) (hd : d ≤ 65535) (ht : t.length ≤ 9223372036854775807) (hg : g ≤ 255) (he : Ev w) : Calls Tryz.prog 6 #[.int .u32 n, .int .u16 d, tx t, .int .u8 g] w fun e w' => e = .returned (.bool true) ∧ Below w.heap.size w w' := by
  by_cases h : t.length ≤ 30
  · exact built_short n d t g w hn hd ht hg he h
  · exact built_long n d t g w hn hd ht hg he (by omega)
end Go.Proofs.YtajbjbnfklllkaaGreatDoor
