/- The contracts of the leaves: overflow, magnitude, signed, signBits, and the document's own of the same: each for every argument. -/
import Derived.Test.YthcakiibkocheaaRows
import Derived.Test.YthcakiibkocheaaPlain
import Derived.WalkKit
import Derived.WalkSpells
import Derived.WalkLawsBesides
import Derived.Deep.RegionHeld3
namespace Go.Proofs.Ythcakiibkocheaa
open Go.RowKit

theorem ret_int {k : IntKind} {a b : Int} (h : a = b) : Ending.returned (.int k a) = .returned (.int k b) := by rw [h]
theorem ret_num {o p : Bool} {a b : Int} (ho : o = p) (h : a = b) : Ending.returned (.agg #[.bool o, .int .i64 a]) = .returned (.agg #[.bool p, .int .i64 b]) := by rw [ho, h]
theorem Below.chain {a b c : World} (h : Below a.heap.size a b) (k : Below b.heap.size b c) : Below a.heap.size a c := h.trans (k.mono h.size)
theorem bal {a w : World} (h : Below a.heap.size a w) (o : Obj) : Below a.heap.size a (w.alloc o) := h.alloc h.size o

/-- A number that lies in a block of its own. -/
structure Box (w : World) (b : Nat) (o : Bool) (n : Int) : Prop where
  c0 : w.cell? ⟨b, 0, none⟩ = some (.bool o)
  c1 : w.cell? ⟨b, 1, none⟩ = some (.int .i64 n)
  f0 : w.frozen? ⟨b, 0, none⟩ = false
  f1 : w.frozen? ⟨b, 1, none⟩ = false
theorem Box.new (w : World) (o : Bool) (n : Int) : Box (w.alloc (.cells #[.bool o, .int .i64 n] 28)) w.heap.size o n := by
  constructor <;> simp [go_sem]
theorem Box.later {w w' : World} {b : Nat} {o : Bool} {n : Int} (h : Box w b o n) (hb : Below w.heap.size w w') : Box w' b o n := by
  have hl : b < w.heap.size := World.block_lt_of_cell? _ _ h.c0
  exact ⟨(hb.cell (p := ⟨b, 0, none⟩) hl).trans h.c0, (hb.cell (p := ⟨b, 1, none⟩) hl).trans h.c1, (hb.frozen (p := ⟨b, 0, none⟩) hl).trans h.f0, (hb.frozen (p := ⟨b, 1, none⟩) hl).trans h.f1⟩

theorem overflow_any (w : World) : Calls Try.prog 40 #[] w fun e w' => e = .returned (.agg #[.bool true, .int .i64 0]) ∧ Below w.heap.size w w' := by
  go_enter Try.func40, Try.ntmps40
  go_wp2
  exact bodyPost_ret (v := .agg #[.bool true, .int .i64 0]) (by simp [results, Try.results40, go_sem]) rfl ⟨rfl, bal (Below.refl _ _) _⟩

theorem ovf_any (w : World) : Calls Try.prog 25 #[] w fun e w' => e = .returned (.agg #[.bool true, .int .i64 0]) ∧ Below w.heap.size w w' := by
  go_enter Try.func25, Try.ntmps25
  go_wp2
  exact bodyPost_ret (v := .agg #[.bool true, .int .i64 0]) (by simp [results, Try.results25, go_sem]) rfl ⟨rfl, bal (Below.refl _ _) _⟩

theorem mag_any (n : Int) (w : World) (h0 : -9223372036854775808 ≤ n) (h1 : n ≤ 9223372036854775807) : Calls Try.prog 38 #[.int .i64 n] w fun e w' => e = .returned (.int .u64 (n.natAbs : Nat)) ∧ w = w' := by
  by_cases h : n < 0
  · go_enter Try.func38, Try.ntmps38
    go_wp2
    go_ret
    exact ⟨ret_int (by rw [IntKind.wrap_u64, IntKind.wrap_u64]; omega), rfl⟩
  · go_enter Try.func38, Try.ntmps38
    go_wp2
    go_ret
    exact ⟨ret_int (by omega), rfl⟩

theorem size_any (n : Int) (w : World) (h0 : -9223372036854775808 ≤ n) (h1 : n ≤ 9223372036854775807) : Calls Try.prog 32 #[.int .i64 n] w fun e w' => e = .returned (.int .u64 (n.natAbs : Nat)) ∧ w = w' := by
  by_cases h : n < 0
  · go_enter Try.func32, Try.ntmps32
    go_wp2
    go_ret
    exact ⟨ret_int (by rw [IntKind.wrap_u64]; unfold wrap64; omega), rfl⟩
  · go_enter Try.func32, Try.ntmps32
    go_wp2
    go_ret
    exact ⟨ret_int (by omega), rfl⟩

theorem signBits_any (n : Int) (w : World) : Calls Try.prog 50 #[.int .i64 n] w fun e w' => e = .returned (.int .u64 (if n < 0 then 18446744073709551615 else 0)) ∧ w = w' := by
  by_cases h : n < 0
  · go_enter Try.func50, Try.ntmps50
    go_wp2
    go_ret
    exact ⟨rfl, rfl⟩
  · go_enter Try.func50, Try.ntmps50
    go_wp2
    go_ret
    exact ⟨rfl, rfl⟩

/-- A size with a sign. -/
def sgn (minus : Bool) (m : Nat) : Option Int := if 9223372036854775807 < m then none else some (if minus then -(m : Int) else m)

theorem signed_any (b : Bool) (m : Nat) (w : World) (hm : m < 18446744073709551616) : Calls Try.prog 51 #[.bool b, .int .u64 m] w fun e w' => e = .returned (.agg #[.bool (ov (sgn b m)), .int .i64 (nn (sgn b m))]) ∧ Below w.heap.size w w' := by
  unfold sgn
  by_cases h : 9223372036854775807 < m
  · have hd : (9223372036854775807 : Int) < m := by omega
    rw [if_pos h]
    go_enter Try.func51, Try.ntmps51
    go_wp2_with fail
    refine (overflow_any _).mono ?_
    rintro e w1 ⟨rfl, hb1⟩
    obtain ⟨c0, c1, f0, f1⟩ := (Box.new w false 0).later hb1
    go_wp2
    exact bodyPost_ret (v := .agg #[.bool true, .int .i64 0]) (by simp [results, Try.results51, go_sem, c0, c1]) rfl ⟨rfl, ((Below.chain (bal (Below.refl _ _) _) hb1).setCell (Nat.le_refl _) _).setCell (Nat.le_refl _) _⟩
  · have hd : ¬ (9223372036854775807 : Int) < m := by omega
    rw [if_neg h]
    have e1 : IntKind.i64.wrap (m : Int) = m := by rw [IntKind.wrap_i64]; omega
    have e2 : IntKind.i64.wrap (-(m : Int)) = -(m : Int) := by rw [IntKind.wrap_i64]; omega
    cases b with
    | true =>
      go_enter Try.func51, Try.ntmps51
      go_wp2
      exact bodyPost_ret (v := .agg #[.bool false, .int .i64 (-(m : Int))]) (by simp [results, Try.results51, go_sem]) rfl ⟨rfl, bal (Below.refl _ _) _⟩
    | false =>
      go_enter Try.func51, Try.ntmps51
      go_wp2
      exact bodyPost_ret (v := .agg #[.bool false, .int .i64 (m : Int)]) (by simp [results, Try.results51, go_sem]) rfl ⟨rfl, bal (Below.refl _ _) _⟩
end Go.Proofs.Ythcakiibkocheaa
