/- What is told of a window's greatest, or least. -/
import Derived.Test.YtpemknkkignmcaaEAddG
import Derived.Test.YtpemknkkignmcaaEAddL
namespace Go.Proofs.Ytpemknkkignmcaa
open Go.RowKit

theorem Box.kept {w w' : World} {b : Nat} {o : Bool} {n : Int} (h : Box w b o n) {row : Option Nat} (hg : w.grownBy w' row) (hne : some b ≠ row) : Box w' b o n :=
  ⟨grown_cell hg h.c0 hne, grown_cell hg h.c1 hne, grown_frozen hg h.lt h.f0 hne, grown_frozen hg h.lt h.f1 hne⟩
/-- A window as it is reached: in memory those that could still be told, of all that are in it. -/
structure St (w : World) (b : Nat) (l : List Smp) (k now : Int) (g : Bool) : Prop where
  m : Rl w b (thn (kg g) l) k now g
  f : Wf l k now
theorem St.later {w w' : World} {b : Nat} {l : List Smp} {k now : Int} {g : Bool} (h : St w b l k now g) (hb : Below w.heap.size w w') : St w' b l k now g := ⟨h.m.later hb, h.f⟩
theorem St.kept {w w' : World} {b : Nat} {l : List Smp} {k now : Int} {g : Bool} (h : St w b l k now g) {row : Option Nat} (hg : w.grownBy w' row) (hne : some b ≠ row) : St w' b l k now g := ⟨h.m.kept hg hne, h.f⟩
theorem new_st (n : Int) (g : Bool) (w : World) : Calls Try.prog 7 #[.int .i64 n, .bool g] w fun e w' => e = .returned (.pointer (some ⟨w.heap.size, 0, none⟩)) ∧ St w' w.heap.size [] (clamp n) 0 g ∧ Below w.heap.size w w' :=
  (new_any n g w).mono fun _ _ ⟨h1, h2, h3⟩ => ⟨h1, ⟨Rl.new h2, Wf.none (clamp_range n) ⟨by omega, by omega⟩⟩, h3⟩
theorem adv_st (b : Nat) (l : List Smp) (k now n : Int) (g : Bool) (w : World) (h : St w b l k now g) :
    Calls Try.prog 8 #[.pointer (some ⟨b, 0, none⟩), .int .i64 n] w fun e w' => e = .returned (.tuple #[]) ∧ St w' b (fg (onw now n - k) l) k (onw now n) g ∧ w.grownBy w' (some b) :=
  (advance_any b _ k now n g w h.m h.f.k1 h.f.n1).mono fun _ _ ⟨h1, h2, h3⟩ => ⟨h1, ⟨by rw [← thn_fg _ _ _ h.f.so]; exact h2, h.f.advance n⟩, h3⟩
theorem add_st (b : Nat) (l : List Smp) (k now : Int) (g : Bool) (s : Smp) (w : World) (h : St w b l k now g) (hr : R64 s.2.2) :
    Calls Try.prog 10 #[.pointer (some ⟨b, 0, none⟩), sv s] w fun e w' => e = .returned (.int .i64 (adE l k now s.1)) ∧ St w' b (adL l k now s) k now g ∧ w.grownBy w' (some b) := by
  cases g with
  | true => exact (add_anyG b l k now s w h.m h.f hr).mono fun _ _ ⟨h1, h2, h3⟩ => ⟨h1, ⟨h2, h.f.add s hr⟩, h3⟩
  | false => exact (add_anyL b l k now s w h.m h.f hr).mono fun _ _ ⟨h1, h2, h3⟩ => ⟨h1, ⟨h2, h.f.add s hr⟩, h3⟩
/-- Who is told. -/
def bst (g : Bool) (l : List Smp) : Smp := (thn (kg g) l).getD 0 s0
theorem get_st (b : Nat) (l : List Smp) (k now : Int) (g : Bool) (w : World) (h : St w b l k now g) :
    Calls Try.prog 11 #[.pointer (some ⟨b, 0, none⟩)] w fun e w' => e = .returned (.tuple #[.agg #[.bool (bst g l).2.1, .int .i64 (bst g l).2.2], .bool (!l.isEmpty)]) ∧ Below w.heap.size w w' := by
  have e : (thn (kg g) l).isEmpty = l.isEmpty := by
    by_cases h : l = []
    · rw [h]; rfl
    · have h' : thn (kg g) l ≠ [] := fun e => h (thn_nil.1 e)
      cases h1 : thn (kg g) l with
      | nil => exact absurd h1 h'
      | cons a r => cases l with
        | nil => exact absurd rfl h
        | cons => rfl
  have := get_any b _ k now g w h.m
  rw [e] at this
  exact this
theorem kept_st (b : Nat) (l : List Smp) (k now : Int) (g : Bool) (w : World) (h : St w b l k now g) :
    Calls Try.prog 14 #[.pointer (some ⟨b, 0, none⟩)] w fun e w' => e = .returned (.int .i64 (thn (kg g) l).length) ∧ w = w' := kept_any b _ k now g w h.m
theorem kept_cell (b c : Nat) (w : World) (h1 : w.cell? ⟨b, 301, none⟩ = some (.int .i64 c)) :
    Calls Try.prog 14 #[.pointer (some ⟨b, 0, none⟩)] w fun e w' => e = .returned (.int .i64 c) ∧ w = w' := by
  go_enter Try.func14, Try.ntmps14
  go_wp2
  go_ret
  exact ⟨rfl, rfl⟩
theorem St.cc {w : World} {b : Nat} {l : List Smp} {k now : Int} {g : Bool} (h : St w b l k now g) : w.cell? ⟨b, 301, none⟩ = some (.int .i64 (thn (kg g) l).length) := by
  obtain ⟨f, o, ho, hl, hr, hf⟩ := h.m
  exact hr.cc
theorem St.lt {w : World} {b : Nat} {l : List Smp} {k now : Int} {g : Bool} (h : St w b l k now g) : b < w.heap.size := h.m.lt
theorem kn_of (n : Int) (m : Int) (h : fOf n = some m) (hn : R64 n) (w : World) : Calls Try.prog 16 #[.int .i64 n] w fun e w' => e = .returned (.agg #[.bool false, .int .i64 m]) ∧ Below w.heap.size w w' := by
  have := of_any n w hn
  rw [h] at this
  exact this
theorem r64_lit {n : Int} (h : (decide (-9223372036854775808 ≤ n) && decide (n ≤ 9223372036854775807)) = true) : R64 n := by
  rw [Bool.and_eq_true, decide_eq_true_eq, decide_eq_true_eq] at h
  exact h
end Go.Proofs.Ytpemknkkignmcaa
