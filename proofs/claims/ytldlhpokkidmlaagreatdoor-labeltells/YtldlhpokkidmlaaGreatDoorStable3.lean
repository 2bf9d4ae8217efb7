/- slices.SortStableFunc by names, twenty to thirty-nine pairs: sorted, and each name's pairs in their order. -/
import Derived.Test.YtldlhpokkidmlaaGreatDoorStable2
namespace Go.Proofs.YtldlhpokkidmlaaGreatDoor
open Go.RowKit

/-- What is to be left behind. -/
def Left (g cap base N : Nat) (l : List Pr) (w0 w : World) : Prop := ∃ m, Own w base (.slice (some ⟨g, 0, none⟩) N cap) m ∧ sortedN m ∧ (∀ n, ofN n m = ofN n l) ∧ Below base w0 w
def LeftA (g cap base N : Nat) (l : List Pr) (w0 w : World) : Prop := ∃ m, Own w base (.slice (some ⟨g, 0, none⟩) N cap) m ∧ m.length = N ∧ sortedN (m.take 20) ∧ (∀ n, ofN n m = ofN n l) ∧ Below base w0 w
def LeftB (g cap base N : Nat) (l : List Pr) (w0 w : World) : Prop := ∃ m, Own w base (.slice (some ⟨g, 0, none⟩) N cap) m ∧ m.length = N ∧ sortedN (m.take 20) ∧ sortedN (m.drop 20) ∧ (∀ n, ofN n m = ofN n l) ∧ Below base w0 w

set_option maxRecDepth 100000 in
set_option maxHeartbeats 2000000 in
theorem stableD_any (g cap base N : Nat) (l : List Pr) (w0 w : World) (ho : Own w base (.slice (some ⟨g, 0, none⟩) N cap) l) (h20 : 20 ≤ N) (h39 : N ≤ 39) (hb : Below base w0 w) (hB : base ≤ w0.heap.size) :
    Calls Tryz.prog 75 #[.slice (some ⟨g, 0, none⟩) N cap, .int .i64 N, .func (.func 28) #[] #[]] w fun e w' => e = .returned (.tuple #[]) ∧ Left g cap base N l w0 w' := by
  have hNl := (Own.holds ho).2.1
  have h1 : (20 : Int) ≤ N := by omega
  have h2 : ¬ (40 : Int) ≤ N := by omega
  have h3 : ¬ (40 : Int) < N := by omega
  have c1 : ∀ W, Hid (Own W base (.slice (some ⟨g, 0, none⟩) N cap) l ∧ Below base w0 W) → Calls Tryz.prog 63 #[.slice (some ⟨g, 0, none⟩) N cap, .int .i64 0, .int .i64 20, .func (.func 28) #[] #[]] W fun e w' => e = .returned (.tuple #[]) ∧ LeftA g cap base N l w0 w' := fun W hW =>
    (insR_any g cap base N l 0 20 w0 W hW.out.1 (by omega) h20 (by omega) hW.out.2 hB).mono fun e w' ⟨he, m, k1, k2, k3, k4, k5, k6⟩ => ⟨he, m, k1, by rw [k2, ← hNl], by simpa using k5, k3, k6⟩
  have c2 : ∀ W, Hid (LeftA g cap base N l w0 W) → Calls Tryz.prog 63 #[.slice (some ⟨g, 0, none⟩) N cap, .int .i64 20, .int .i64 N, .func (.func 28) #[] #[]] W fun e w' => e = .returned (.tuple #[]) ∧ LeftB g cap base N l w0 w' := fun W hW => by
    obtain ⟨m0, o0, l0, s0, f0, b0⟩ := hW.out
    refine (insR_any g cap base N m0 20 N w0 W o0 h20 (Nat.le_refl _) (by omega) b0 hB).mono fun e w' ⟨he, m, k1, k2, k3, k4, k5, k6⟩ => ⟨he, m, k1, by rw [k2, l0], by rw [k4]; exact s0, ?_, fun n => (k3 n).trans (f0 n), k6⟩
    rw [List.take_of_length_le (by rw [List.length_drop, k2, l0]; exact Nat.le_refl _)] at k5
    exact k5
  have c3 : ∀ W, 20 < N → Hid (LeftB g cap base N l w0 W) → Calls Tryz.prog 88 #[.slice (some ⟨g, 0, none⟩) N cap, .int .i64 0, .int .i64 20, .int .i64 N, .func (.func 28) #[] #[]] W fun e w' => e = .returned (.tuple #[]) ∧ Left g cap base N l w0 w' := fun W h hW => by
    obtain ⟨m0, o0, l0, s0, s1, f0, b0⟩ := hW.out
    have := sym_ok g cap base N w0 (by omega) hB (N + 1) [] (m0.take 20) (m0.drop 20) [] 0 20 N W (by omega) (by simp; omega) (by simp; omega) rfl (by simp; omega) (by simp; omega) s0 s1 (by simpa using o0) b0
    refine this.mono fun e w' ⟨he, M, hM, o1, b1⟩ => ⟨he, M, by simpa using o1, hM.2.1, fun n => ?_, b1⟩
    rw [hM.2.2.1 n, List.take_append_drop]
    exact f0 n
  have c4 : ∀ W, N = 20 → Hid (LeftB g cap base N l w0 W) → Left g cap base N l w0 W := fun W h hW => by
    obtain ⟨m0, o0, l0, s0, _, f0, b0⟩ := hW.out
    rw [List.take_of_length_le (by omega)] at s0
    exact ⟨m0, o0, s0, f0, b0⟩
  have HO : Hid (Own w base (.slice (some ⟨g, 0, none⟩) N cap) l ∧ Below base w0 w) := ⟨ho, hb⟩
  clear hNl ho hb
  go_enter Tryz.func75, Tryz.ntmps75
  go_wp2_with fail
  go_loopw [7, 8] (fun a b wr => (a = .int .i64 0 ∧ b = .int .i64 20 ∧ Hid (Own wr base (.slice (some ⟨g, 0, none⟩) N cap) l ∧ Below base w0 wr)) ∨ (a = .int .i64 20 ∧ b = .int .i64 40 ∧ Hid (LeftA g cap base N l w0 wr))) (fun _ b _ => 40 - (intOf b).toNat)
  case atStart => exact Or.inl ⟨rfl, rfl, HO⟩
  case round =>
    clear HO
    rcases hrel with ⟨rfl, rfl, HW⟩ | ⟨rfl, rfl, HW⟩
    · go_wp2_with fail
      refine (c1 _ HW).mono ?_
      rintro e w1 ⟨rfl, k1⟩
      have K1 : Hid _ := k1
      clear k1
      go_wp2_with fail
      go_roundw
      case rel => exact Or.inr ⟨rfl, rfl, K1⟩
      case measure => simp [intOf]
    · go_wp2_with fail
      refine (c2 _ HW).mono ?_
      rintro e w1 ⟨rfl, k1⟩
      have K1 : Hid _ := k1
      clear k1 HW
      go_wp2_with fail
      go_loopw [6] (fun b wr => (b = .int .i64 20 ∧ Hid (LeftB g cap base N l w0 wr)) ∨ (b = .int .i64 40 ∧ Hid (Left g cap base N l w0 wr))) (fun b _ => 40 - (intOf b).toNat)
      case atStart => exact Or.inl ⟨rfl, K1⟩
      case round =>
        clear K1
        rcases hrel with ⟨rfl, HW⟩ | ⟨rfl, HW⟩
        · by_cases hN : 20 < N
          · have hN' : (20 : Int) < N := by omega
            go_wp2_with fail
            go_loopw [7, 8] (fun a b wr => a = .int .i64 0 ∧ b = .int .i64 40 ∧ Hid (LeftB g cap base N l w0 wr)) (fun _ _ _ => 0)
            case atStart => exact ⟨rfl, rfl, HW⟩
            case round =>
              clear HW
              obtain ⟨rfl, rfl, HW⟩ := hrel
              go_wp2_with fail
              refine (c3 _ hN HW).mono ?_
              rintro e w2 ⟨rfl, k2⟩
              have K2 : Hid _ := k2
              clear k2 HW
              go_wp2_with fail
              go_roundw
              case rel => exact Or.inr ⟨rfl, K2⟩
              case measure => simp [intOf]
          · have hN' : ¬ (20 : Int) < N := by omega
            have HF := c4 wr (by omega) HW
            have HF2 : Hid _ := HF
            clear HF HW
            go_wp2_with fail
            go_end0
            exact ⟨rfl, HF2.out⟩
        · go_wp2_with fail
          go_end0
          exact ⟨rfl, HW.out⟩
set_option maxHeartbeats 1000000 in
theorem stable_any2 (v : Value) (base : Nat) (l : List Pr) (w0 w : World) (ho : Own w base v l) (hn : l.length ≤ 39) (hb : Below base w0 w) (hB : base ≤ w0.heap.size) :
    Calls Tryz.prog 53 #[v, .func (.func 28) #[] #[]] w fun e w' => e = .returned (.tuple #[]) ∧ ∃ ao cap m, v = .slice ao l.length cap ∧ Ps w' ao l.length m ∧ sortedN m ∧ (∀ n, ofN n m = ofN n l) ∧ Below base w0 w' := by
  by_cases h20 : l.length < 20
  · exact stable_any v base l w0 w ho h20 hb hB
  · rcases ho.2 with ⟨rfl, h0⟩ | ⟨g, cap, cur, rfl, _⟩
    · omega
    · have hcon := stableD_any g cap base l.length l w0 w ho (by omega) hn hb hB
      generalize hN : l.length = N at *
      have HN : Hid _ := hN
      have HC := fun (_ : Unit) => hcon
      clear hcon ho hN
      go_enter Tryz.func53, Tryz.ntmps53
      go_wp2_with fail
      refine (HC ()).mono ?_
      rintro e w' ⟨rfl, m, k1, k2, k3, k4⟩
      go_wp2
      go_end0
      obtain ⟨ao, cap2, e, hp, _⟩ := k1.slice
      cases e
      exact ⟨rfl, _, _, m, rfl, by have := (Own.holds k1).2.1; rw [← this] at hp; exact hp, k2, k3, k4⟩
end Go.Proofs.YtldlhpokkidmlaaGreatDoor
