/- CounterOf, walked. -/
import Derived.Test.YthcakiibkocheaaCKnown
import Derived.Test.YthcakiibkocheaaCIncV
namespace Go.Proofs.Ythcakiibkocheaa
open Go.RowKit

set_option maxHeartbeats 2000000 in
theorem counterOf_any (ao : Option Addr) (n cap : Nat) (l : List Smp) (w : World) (_ : n ≤ maxLen) (hs : Ms w ao n l) (hl : ∀ s ∈ l, R64 s.2.2) :
    Calls Try.prog 4 #[.slice ao n cap] w fun e w' => e = .returned (.bool true) ∧ Below w.heap.size w w' := by
  by_cases h100 : 100 < n
  · have d0 : decide ((100 : Int) < (n : Int)) = true := decide_eq_true (by omega)
    have d0' : decide (100 < n) = true := decide_eq_true h100
    clear hs hl
    go_enter Try.func4, Try.ntmps4
    go_wp2_with fail
    refine (known_any _).mono ?_
    rintro e w1 ⟨rfl, hb1⟩
    go_wp2
    go_ret
    exact ⟨rfl, hb1⟩
  · have d0 : decide ((100 : Int) < (n : Int)) = false := decide_eq_false (by omega)
    have d0' : decide (100 < n) = false := decide_eq_false h100
    have hof := fun W hW => of_row ao n cap l W (by omega) hW hl
    have hrf := fun W hW => inc_val ao n cap l W (by omega) hW hl
    obtain ⟨o, m, c, hE⟩ : ∃ (o : Bool) (m : Int) (c : Bool), (if n < 2 then Value.tuple #[.agg #[.bool false, .int .i64 0], .bool false] else .tuple #[.agg #[.bool (ov (incP l)), .int .i64 (nn (incP l))], .bool true]) = .tuple #[.agg #[.bool o, .int .i64 m], .bool c] := by
      by_cases h2 : n < 2
      · rw [if_pos h2]; exact ⟨_, _, _, rfl⟩
      · rw [if_neg h2]; exact ⟨_, _, _, rfl⟩
    rw [hE] at hof hrf
    clear hE hl h100
    go_enter Try.func4, Try.ntmps4
    go_wp2_with fail
    refine (known_any _).mono ?_
    rintro e w1 ⟨rfl, hb1⟩
    have hs1 := hs.later hb1
    go_wp2_with fail
    refine (hof _ hs1).mono ?_
    rintro e w2 ⟨rfl, hb2⟩
    have hx2 := Box.new w2 o m
    have hb2' := bal (Below.chain hb1 hb2) (.cells #[.bool o, .int .i64 m] 28)
    have hs2 := (hs1.later hb2).later (bal (Below.refl _ _) (.cells #[.bool o, .int .i64 m] 28))
    go_wp2_with fail
    generalize w2.heap.size = B1 at *
    generalize w2.alloc (.cells #[.bool o, .int .i64 m] 28) = w3 at *
    refine (hrf _ hs2).mono ?_
    rintro e w4 ⟨rfl, hb4⟩
    have hx4 := (hx2.later hb4).later (bal (Below.refl _ _) (.cells #[.bool o, .int .i64 m] 28))
    have hb4' := bal (Below.chain hb2' hb4) (.cells #[.bool o, .int .i64 m] 28)
    obtain ⟨c0, c1, _, _⟩ := id hx4
    cases c with
    | true =>
      go_wp2
      go_ret
      exact ⟨rfl, hb4'⟩
    | false =>
      go_wp2
      go_ret
      exact ⟨rfl, hb4'⟩
end Go.Proofs.Ythcakiibkocheaa
