/- Add: out of the window. -/
import Derived.Test.YtpemknkkignmcaaEAdv
import Derived.BigQuiet
namespace Go.Proofs.Ytpemknkkignmcaa
open Go.RowKit

theorem Wf.room {l : List Smp} {k nw : Int} (h : Wf l k nw) {t : Int} (ho : ¬ (t < 0 ∨ nw < t ∨ t ≤ nw - k)) (h1 : ¬ (l ≠ [] ∧ t ≤ (lst l).1)) : l.length < 100 := by
  have e : adE l k nw (t, false, (0 : Int)).1 = 0 := by unfold adE; rw [if_neg ho, if_neg h1]
  have hw := (h.add (t, false, 0) ⟨by show _ ≤ (0 : Int); omega, by show (0 : Int) ≤ _; omega⟩).le
  unfold adL at hw
  rw [if_pos e, List.length_append, List.length_singleton] at hw
  omega
theorem adE_out {l : List Smp} {k nw t : Int} (h : t < 0 ∨ nw < t ∨ t ≤ nw - k) : adE l k nw t = 152 := by unfold adE; rw [if_pos h]
theorem adE_old {l : List Smp} {k nw t : Int} (h : ¬ (t < 0 ∨ nw < t ∨ t ≤ nw - k)) (h1 : l ≠ [] ∧ t ≤ (lst l).1) : adE l k nw t = 150 := by unfold adE; rw [if_neg h, if_pos h1]
theorem adE_ok {l : List Smp} {k nw t : Int} (h : ¬ (t < 0 ∨ nw < t ∨ t ≤ nw - k)) (h1 : ¬ (l ≠ [] ∧ t ≤ (lst l).1)) : adE l k nw t = 0 := by unfold adE; rw [if_neg h, if_neg h1]
set_option maxHeartbeats 2000000 in
theorem add_out (b : Nat) (l : List Smp) (k now : Int) (g : Bool) (s : Smp) (w : World) (h : Rl w b l k now g) (hk : 1 ≤ k ∧ k ≤ 100) (hn : 0 ≤ now ∧ now ≤ 1000000) (ho : s.1 < 0 ∨ now < s.1 ∨ s.1 ≤ now - k) :
    Calls Try.prog 10 #[.pointer (some ⟨b, 0, none⟩), sv s] w fun e w' => e = .returned (.int .i64 152) ∧ Below w.heap.size w w' := by
  have hb1 := bal (Below.refl _ w) (.cells #[.int .i64 s.1, .bool s.2.1, .int .i64 s.2.2] 32)
  have h1 := (h.later hb1).time
  have h2 := (h.later hb1).width
  have e1 : wrap64 (now - k) = now - k := by unfold wrap64; omega
  clear h
  obtain ⟨t, o, n⟩ := s
  dsimp only at *
  by_cases c1 : t < 0
  · have d1 : decide (t < 0) = true := decide_eq_true c1
    clear c1 ho
    go_enter Try.func10, Try.ntmps10
    go_wp2_with fail
    go_quiet (fail)
    go_wp2
    go_ret
    exact ⟨rfl, below_drewN hb1 _⟩
  · have d1 : decide (t < 0) = false := decide_eq_false c1
    by_cases c2 : now < t
    · have d2 : decide (now < t) = true := decide_eq_true c2
      clear c1 c2 ho
      go_enter Try.func10, Try.ntmps10
      go_wp2_with fail
      go_quiet (fail)
      go_wp2
      go_ret
      exact ⟨rfl, below_drewN hb1 _⟩
    · have d2 : decide (now < t) = false := decide_eq_false c2
      have d3 : decide (t ≤ now - k) = true := decide_eq_true (by omega)
      clear c1 c2 ho
      go_enter Try.func10, Try.ntmps10
      go_wp2_with fail
      go_quiet (fail)
      go_wp2
      go_ret
      exact ⟨rfl, below_drewN hb1 _⟩
end Go.Proofs.Ytpemknkkignmcaa
