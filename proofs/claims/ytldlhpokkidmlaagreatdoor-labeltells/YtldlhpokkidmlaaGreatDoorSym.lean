/- slices' symMerge: for every two rows side by side. -/
import Derived.Test.YtldlhpokkidmlaaGreatDoorSymOne
import Derived.Test.YtldlhpokkidmlaaGreatDoorSymLast
import Derived.Test.YtldlhpokkidmlaaGreatDoorSymGen
namespace Go.Proofs.YtldlhpokkidmlaaGreatDoor
open Go.RowKit

theorem sym_ok (g cap base N : Nat) (w0 : World) (hN : N ≤ 1000000) (hB0 : base ≤ w0.heap.size) : ∀ K, SymOK g cap base N w0 K := by
  intro K
  induction K with
  | zero => intro P L R S a m b w hK; omega
  | succ K ih =>
    intro P L R S a m b w hK hL hR ha hm hb hsL hsR ho hbw
    by_cases h1 : L.length = 1
    · obtain ⟨x, rfl⟩ := List.length_eq_one_iff.1 h1
      exact symOne_any g cap base N P x R S a m b w0 w ha (by simpa using hm) hb hsR hN (by simpa using ho) hbw hB0
    · by_cases h2 : R.length = 1
      · obtain ⟨y, rfl⟩ := List.length_eq_one_iff.1 h2
        exact symLast_any g cap base N P L y S a m b w0 w ha hm (by omega) (by simpa using hb) hsL hN (by simpa using ho) hbw hB0
      · refine symGen_any g cap base N w0 P L R S a m b w ?_ (by omega) (by omega) ha hm hb hsL hsR hN ho hbw hB0
        intro P' L' R' S' a' m' b' w' hK'
        exact ih P' L' R' S' a' m' b' w' (by omega)
end Go.Proofs.YtldlhpokkidmlaaGreatDoor
