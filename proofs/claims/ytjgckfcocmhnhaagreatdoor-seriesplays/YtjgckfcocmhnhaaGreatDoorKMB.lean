/- Texts that the others lean on. -/
import Derived.Test.YtjgckfcocmhnhaaGreatDoorKMA
import Derived.Lib.BitFns
import Derived.Shelf.Small.Bits
import Derived.Shelf.Bits.Mul64
import Derived.Test.YtjgckfcocmhnhaaGreatDoorProg
import Derived.BigQuiet
import Derived.Deep.CutBlock
import Derived.Laws.Bits64b
namespace Go.Proofs.YtjgckfcocmhnhaaGreatDoor
open Go.RowKit
set_option maxHeartbeats 1000000 in
theorem cmp_any (o p : Bool) (n m : Int) (w : World) (hn : R64 n) (hm : R64 m) : Calls Tryz.prog 23 #[.agg #[.bool o, .int .i64 n], .agg #[.bool p, .int .i64 m]] w fun e w' => e = .returned (.int .i64 (fCmp (cnt o n) (cnt p m))) ∧ Below w.heap.size w w' := by
 obtain ⟨hx, hy, hb⟩ := boxes2 w o p n m
 generalize hX : cnt o n = x
 generalize hY : cnt p m = y
 go_enter Tryz.func23, Tryz.ntmps23
 go_wp2_with fail
 generalize (w.alloc (.cells #[.bool o, .int .i64 n] 33)).alloc (.cells #[.bool p, .int .i64 m] 33) = w1 at *
 have B2 : Below w1.heap.size w1 w1.drew := (Below.refl _ _).drew
 refine region_mid (fun a' W => a' = { tmps := #[Value.agg #[.bool o, .int .i64 n], Value.agg #[.bool p, .int .i64 m], Value.pointer (some ⟨w.heap.size, 0, none⟩), Value.pointer (some ⟨w.heap.size + 1, 0, none⟩), .int .i64 0, Value.agg #[.bool o, .int .i64 n], Value.agg #[.bool (ov x), .int .i64 (nn x)], Value.agg #[.bool p, .int .i64 m], Value.agg #[.bool (ov y), .int .i64 (nn y)], undef, undef, undef, undef, undef, undef, undef, undef, undef, undef, undef, undef, undef, undef, undef, undef, undef, undef, undef], defers := [] } ∧ Box W w.heap.size (ov x) (nn x) ∧ Box W (w.heap.size + 1) (ov y) (nn y) ∧ Below w.heap.size w W) ?_ ?_
 ·
  refine wp_region_noPanic ?_
  refine wp_region_held_drew (S := fun _ => True) (by kernel_rfl) ?_ (fun _ => ?_)
  ·
   exact trivial
  refine wpAnyH_ready (rs := [0, 2]) (by kernel_rfl) (by simp) ?_
  refine AllReadyH.cons rfl (fun K hK => ?_) (AllReadyH.cons rfl (fun K hK => ?_) AllReadyH.nil)
  ·
   have c0 := (hx.later B2).c0
   have c1 := (hx.later B2).c1
   go_simp
   refine hK.out _ _ ?_ (fun _ => ?_)
   ·
    exact trivial
   clear hK K
   clear c0 c1
   refine wpAnyH_ready (rs := [1, 2]) (by kernel_rfl) (by simp) ?_
   refine AllReadyH.cons rfl (fun K hK => ?_) (AllReadyH.cons rfl (fun K hK => ?_) AllReadyH.nil)
   ·
    go_simp
    refine (counted_any o n _ hn.1).mono ?_
    rintro e w2 ⟨rfl, hg2⟩
    rw [hX]
    have g2 := Below.chain B2 hg2
    refine hK.out _ _ ?_ (fun _ => ?_)
    ·
     exact trivial
    clear hK K
    refine wpAnyH_ready (rs := [2]) (by kernel_rfl) (by simp) ?_
    refine AllReadyH.cons rfl (fun K hK => ?_) AllReadyH.nil
    have c0 := (hy.later g2).c0
    have c1 := (hy.later g2).c1
    go_simp
    refine hK.out _ _ ?_ (fun _ => ?_)
    ·
     exact trivial
    clear hK K
    clear c0 c1
    refine wpAnyH_ready (rs := [3]) (by kernel_rfl) (by simp) ?_
    refine AllReadyH.cons rfl (fun K hK => ?_) AllReadyH.nil
    go_simp
    refine (counted_any p m _ hm.1).mono ?_
    rintro e w3 ⟨rfl, hg3⟩
    rw [hY]
    have g3 := Below.chain g2 hg3
    refine hK.out _ _ ?_ (fun _ => ?_)
    ·
     exact trivial
    clear hK K
    have hx4 := (hx.later g3).put (p := ov x) (m := nn x)
    have hy4 := (hy.later g3).put_other (a := w.heap.size) (p := ov x) (m := nn x) (by omega)
    have hb4 := put2 (Below.chain hb g3) (b := w.heap.size) (by omega) (ov x) (nn x)
    have hx3 := hx.later g3
    have c0 := hx3.c0
    have c1 := hx3.c1
    have f0 := hx3.f0
    have f1 := hx3.f1
    refine wpAnyH_ready (rs := [4]) (by kernel_rfl) (by simp) ?_
    refine AllReadyH.cons rfl (fun K hK => ?_) AllReadyH.nil
    go_simp
    refine hK.out _ _ ?_ (fun _ => ?_)
    ·
     exact trivial
    clear hK K
    clear c0 c1 f0 f1
    have hx5 := hx4.put_other (a := w.heap.size + 1) (p := ov y) (m := nn y) (by omega)
    have hy5 := hy4.put (p := ov y) (m := nn y)
    have hb5 := put2 hb4 (b := w.heap.size + 1) (by omega) (ov y) (nn y)
    have c0 := hy4.c0
    have c1 := hy4.c1
    have f0 := hy4.f0
    have f1 := hy4.f1
    refine wpAnyH_ready (rs := [5]) (by kernel_rfl) (by simp) ?_
    refine AllReadyH.cons rfl (fun K hK => ?_) AllReadyH.nil
    go_simp
    refine hK.out _ _ ?_ (fun _ => ?_)
    ·
     exact trivial
    clear hK K
    clear c0 c1 f0 f1
    refine wpAnyH_done (by kernel_rfl) ?_ _
    refine NoPanic.normal ?_
    exact ⟨rfl, hx5, hy5, hb5⟩
   ·
    have c0 := (hy.later B2).c0
    have c1 := (hy.later B2).c1
    go_simp
    refine hK.out _ _ ?_ (fun _ => ?_)
    ·
     exact trivial
    clear hK K
    clear c0 c1
    refine wpAnyH_ready (rs := [1]) (by kernel_rfl) (by simp) ?_
    refine AllReadyH.cons rfl (fun K hK => ?_) AllReadyH.nil
    go_simp
    refine (counted_any o n _ hn.1).mono ?_
    rintro e w2 ⟨rfl, hg2⟩
    rw [hX]
    have g2 := Below.chain B2 hg2
    refine hK.out _ _ ?_ (fun _ => ?_)
    ·
     exact trivial
    clear hK K
    refine wpAnyH_ready (rs := [3]) (by kernel_rfl) (by simp) ?_
    refine AllReadyH.cons rfl (fun K hK => ?_) AllReadyH.nil
    go_simp
    refine (counted_any p m _ hm.1).mono ?_
    rintro e w3 ⟨rfl, hg3⟩
    rw [hY]
    have g3 := Below.chain g2 hg3
    refine hK.out _ _ ?_ (fun _ => ?_)
    ·
     exact trivial
    clear hK K
    have hx4 := (hx.later g3).put (p := ov x) (m := nn x)
    have hy4 := (hy.later g3).put_other (a := w.heap.size) (p := ov x) (m := nn x) (by omega)
    have hb4 := put2 (Below.chain hb g3) (b := w.heap.size) (by omega) (ov x) (nn x)
    have hx3 := hx.later g3
    have c0 := hx3.c0
    have c1 := hx3.c1
    have f0 := hx3.f0
    have f1 := hx3.f1
    refine wpAnyH_ready (rs := [4]) (by kernel_rfl) (by simp) ?_
    refine AllReadyH.cons rfl (fun K hK => ?_) AllReadyH.nil
    go_simp
    refine hK.out _ _ ?_ (fun _ => ?_)
    ·
     exact trivial
    clear hK K
    clear c0 c1 f0 f1
    have hx5 := hx4.put_other (a := w.heap.size + 1) (p := ov y) (m := nn y) (by omega)
    have hy5 := hy4.put (p := ov y) (m := nn y)
    have hb5 := put2 hb4 (b := w.heap.size + 1) (by omega) (ov y) (nn y)
    have c0 := hy4.c0
    have c1 := hy4.c1
    have f0 := hy4.f0
    have f1 := hy4.f1
    refine wpAnyH_ready (rs := [5]) (by kernel_rfl) (by simp) ?_
    refine AllReadyH.cons rfl (fun K hK => ?_) AllReadyH.nil
    go_simp
    refine hK.out _ _ ?_ (fun _ => ?_)
    ·
     exact trivial
    clear hK K
    clear c0 c1 f0 f1
    refine wpAnyH_done (by kernel_rfl) ?_ _
    refine NoPanic.normal ?_
    exact ⟨rfl, hx5, hy5, hb5⟩
  ·
   have c0 := (hy.later B2).c0
   have c1 := (hy.later B2).c1
   go_simp
   refine hK.out _ _ ?_ (fun _ => ?_)
   ·
    exact trivial
   clear hK K
   clear c0 c1
   refine wpAnyH_ready (rs := [0]) (by kernel_rfl) (by simp) ?_
   refine AllReadyH.cons rfl (fun K hK => ?_) AllReadyH.nil
   have c0 := (hx.later B2).c0
   have c1 := (hx.later B2).c1
   go_simp
   refine hK.out _ _ ?_ (fun _ => ?_)
   ·
    exact trivial
   clear hK K
   clear c0 c1
   refine wpAnyH_ready (rs := [1]) (by kernel_rfl) (by simp) ?_
   refine AllReadyH.cons rfl (fun K hK => ?_) AllReadyH.nil
   go_simp
   refine (counted_any o n _ hn.1).mono ?_
   rintro e w2 ⟨rfl, hg2⟩
   rw [hX]
   have g2 := Below.chain B2 hg2
   refine hK.out _ _ ?_ (fun _ => ?_)
   ·
    exact trivial
   clear hK K
   refine wpAnyH_ready (rs := [3]) (by kernel_rfl) (by simp) ?_
   refine AllReadyH.cons rfl (fun K hK => ?_) AllReadyH.nil
   go_simp
   refine (counted_any p m _ hm.1).mono ?_
   rintro e w3 ⟨rfl, hg3⟩
   rw [hY]
   have g3 := Below.chain g2 hg3
   refine hK.out _ _ ?_ (fun _ => ?_)
   ·
    exact trivial
   clear hK K
   have hx4 := (hx.later g3).put (p := ov x) (m := nn x)
   have hy4 := (hy.later g3).put_other (a := w.heap.size) (p := ov x) (m := nn x) (by omega)
   have hb4 := put2 (Below.chain hb g3) (b := w.heap.size) (by omega) (ov x) (nn x)
   have hx3 := hx.later g3
   have c0 := hx3.c0
   have c1 := hx3.c1
   have f0 := hx3.f0
   have f1 := hx3.f1
   refine wpAnyH_ready (rs := [4]) (by kernel_rfl) (by simp) ?_
   refine AllReadyH.cons rfl (fun K hK => ?_) AllReadyH.nil
   go_simp
   refine hK.out _ _ ?_ (fun _ => ?_)
   ·
    exact trivial
   clear hK K
   clear c0 c1 f0 f1
   have hx5 := hx4.put_other (a := w.heap.size + 1) (p := ov y) (m := nn y) (by omega)
   have hy5 := hy4.put (p := ov y) (m := nn y)
   have hb5 := put2 hb4 (b := w.heap.size + 1) (by omega) (ov y) (nn y)
   have c0 := hy4.c0
   have c1 := hy4.c1
   have f0 := hy4.f0
   have f1 := hy4.f1
   refine wpAnyH_ready (rs := [5]) (by kernel_rfl) (by simp) ?_
   refine AllReadyH.cons rfl (fun K hK => ?_) AllReadyH.nil
   go_simp
   refine hK.out _ _ ?_ (fun _ => ?_)
   ·
    exact trivial
   clear hK K
   clear c0 c1 f0 f1
   refine wpAnyH_done (by kernel_rfl) ?_ _
   refine NoPanic.normal ?_
   exact ⟨rfl, hx5, hy5, hb5⟩
 ·
  rintro _ W ⟨rfl, hx, hy, hb⟩
  cases x with
  | none =>
   cases y with
   | none =>
    obtain ⟨c0, c1, f0, f1⟩ := hx
    obtain ⟨d0, d1, g0, g1⟩ := hy
    go_wp2
    go_ret
    exact ⟨rfl, hb⟩
   | some b =>
    obtain ⟨c0, c1, f0, f1⟩ := hx
    obtain ⟨d0, d1, g0, g1⟩ := hy
    go_wp2
    go_ret
    exact ⟨rfl, hb⟩
  | some a =>
   cases y with
   | none =>
    obtain ⟨c0, c1, f0, f1⟩ := hx
    obtain ⟨d0, d1, g0, g1⟩ := hy
    go_wp2
    go_ret
    exact ⟨rfl, hb⟩
   | some b =>
    obtain ⟨c0, c1, f0, f1⟩ := hx
    obtain ⟨d0, d1, g0, g1⟩ := hy
    simp only [nn, ov] at c0 c1 d0 d1 ⊢
    by_cases h : a = b
    ·
     subst h
     go_wp2
     go_ret
     exact ⟨ret_int (by simp [fCmp]), hb⟩
    ·
     by_cases h2 : b < a
     ·
      go_wp2
      go_ret
      exact ⟨ret_int (by simp [fCmp, h, h2]), hb⟩
     ·
      go_wp2
      go_ret
      exact ⟨ret_int (by simp [fCmp, h, h2]), hb⟩
end Go.Proofs.YtjgckfcocmhnhaaGreatDoor
namespace Go.Proofs.YtjgckfcocmhnhaaGreatDoor
theorem half_mul (q y1 y0 : Nat) : q * (y1 * 4294967296 + y0) = q * y1 * 4294967296 + q * y0 := by rw [Nat.mul_add, ← Nat.mul_assoc]
/-- The digit is not too large. -/
theorem half_le {u d y1 y0 q r : Nat} (hq : q * y1 + r = u) (h : q * y0 ≤ 4294967296 * r + d) : q * (y1 * 4294967296 + y0) ≤ u * 4294967296 + d := by
 rw [half_mul, ← hq]
 generalize q * y1 = A at *
 generalize q * y0 = C at *
 omega
/-- The digit is too large. -/
theorem half_gt {u d y1 y0 q r : Nat} (hq : q * y1 + r = u) (h : 4294967296 * r + d < q * y0) : u * 4294967296 + d < q * (y1 * 4294967296 + y0) := by
 rw [half_mul, ← hq]
 generalize q * y1 = A at *
 generalize q * y0 = C at *
 omega
theorem half_first {u y1 y0 : Nat} (h1 : 2147483648 ≤ y1) (h0 : y0 < 4294967296) (hu : u < y1 * 4294967296 + y0) : u / y1 ≤ 4294967297 := by
 have : u < 4294967298 * y1 := by omega
 have := (Nat.div_lt_iff_lt_mul (by omega : 0 < y1)).2 this
 omega
theorem half_digit {u d y : Nat} (hd : d < 4294967296) (hu : u < y) : (u * 4294967296 + d) / y < 4294967296 := by
 rw [Nat.div_lt_iff_lt_mul (by omega)]
 omega
/-- What holds at the head of the loop. -/
def HalfInv (u d y1 y0 q r : Nat) : Prop := q * y1 + r = u ∧ (u * 4294967296 + d) / (y1 * 4294967296 + y0) ≤ q ∧ r < 4294967296 ∧ q ≤ 4294967297
theorem HalfInv.start {u d y1 y0 : Nat} (h1 : 2147483648 ≤ y1) (hy : y1 < 4294967296) (h0 : y0 < 4294967296) (hd : d < 4294967296) (hu : u < y1 * 4294967296 + y0) : HalfInv u d y1 y0 (u / y1) (u - u / y1 * y1) := by
 have e := Nat.div_add_mod u y1
 have m := Nat.mod_lt u (by omega : 0 < y1)
 have c := Nat.mul_comm y1 (u / y1)
 refine ⟨by omega, ?_, by omega, half_first h1 h0 hu⟩
 have : u * 4294967296 + d < (u / y1 + 1) * (y1 * 4294967296 + y0) := by
  rw [half_mul, Nat.add_mul, Nat.one_mul]
  generalize (u / y1 + 1) * y0 = Z
  omega
 have := (Nat.div_lt_iff_lt_mul (by omega : 0 < y1 * 4294967296 + y0)).2 this
 omega
theorem HalfInv.stop {u d y1 y0 q r : Nat} (h : HalfInv u d y1 y0 q r) (hy : 0 < y1) (hc : q * y0 ≤ 4294967296 * r + d) : q = (u * 4294967296 + d) / (y1 * 4294967296 + y0) := by
 obtain ⟨a, b, _, _⟩ := h
 have := half_le a hc
 have := (Nat.le_div_iff_mul_le (by omega : 0 < y1 * 4294967296 + y0)).2 this
 omega
/-- What holds behind a step down. -/
theorem HalfInv.down {u d y1 y0 q r : Nat} (h : HalfInv u d y1 y0 q r) (hd : d < 4294967296) (hu : u < y1 * 4294967296 + y0) (hc : 4294967296 ≤ q ∨ 4294967296 * r + d < q * y0) : 1 ≤ q ∧ (q - 1) * y1 + (r + y1) = u ∧ (u * 4294967296 + d) / (y1 * 4294967296 + y0) ≤ q - 1 ∧ q - 1 ≤ 4294967296 := by
 obtain ⟨a, b, _, e⟩ := h
 have hq : (u * 4294967296 + d) / (y1 * 4294967296 + y0) < q := by
  rcases hc with hc | hc
  ·
   have := half_digit (y := y1 * 4294967296 + y0) hd hu
   omega
  ·
   exact (Nat.div_lt_iff_lt_mul (by omega : 0 < y1 * 4294967296 + y0)).2 (half_gt a hc)
 generalize (u * 4294967296 + d) / (y1 * 4294967296 + y0) = T at *
 refine ⟨by omega, ?_, by omega, by omega⟩
 have : q * y1 = (q - 1) * y1 + y1 := by
  have : q = (q - 1) + 1 := by omega
  rw [this, Nat.add_mul, Nat.one_mul]
  simp
 omega
theorem HalfInv.broke {u d y1 y0 q r : Nat} (hy : 0 < y1) (h0 : y0 < 4294967296) (a : q * y1 + r = u) (b : (u * 4294967296 + d) / (y1 * 4294967296 + y0) ≤ q) (e : q ≤ 4294967296) (hr : 4294967296 ≤ r) : q = (u * 4294967296 + d) / (y1 * 4294967296 + y0) := by
 have hz : q * y0 ≤ 4294967296 * r + d := by
  have : q * y0 ≤ 4294967296 * 4294967296 := Nat.mul_le_mul e (by omega)
  omega
 have := half_le a hz
 have := (Nat.le_div_iff_mul_le (by omega : 0 < y1 * 4294967296 + y0)).2 this
 omega
/-- The remainder of a step. -/
theorem rest_lt (N y : Nat) (h : 0 < y) : N - N / y * y < y := by
 have := Nat.mod_lt N h
 have e := Nat.div_add_mod N y
 rw [Nat.mul_comm] at e
 omega
/-- Two steps are one. -/
theorem two_steps (K u d1 d0 y : Nat) (hy : 0 < y) (q1 q0 r : Nat) (h1 : q1 = (u * K + d1) / y) (hr : r = u * K + d1 - q1 * y) (h0 : q0 = (r * K + d0) / y) : q1 * K + q0 = (u * (K * K) + d1 * K + d0) / y := by
 have e : u * K + d1 = y * q1 + r := by
  have := Nat.div_mul_le_self (u * K + d1) y
  rw [← h1] at this
  rw [Nat.mul_comm y q1]
  omega
 have e2 : u * (K * K) + d1 * K + d0 = (r * K + d0) + y * (q1 * K) := by
  have e3 : (u * K + d1) * K = (y * q1 + r) * K := by rw [e]
  rw [Nat.add_mul, Nat.add_mul, Nat.mul_assoc, Nat.mul_assoc] at e3
  omega
 rw [e2, Nat.add_mul_div_left _ _ hy, ← h0]
 omega
/-- The divisor, shifted to the top. -/
theorem bitLen_bounds : ∀ (f x : Nat), x < 2 ^ f → x ≠ 0 → 2 ^ (Go.Lib.bitLenAux f x - 1) ≤ x ∧ x < 2 ^ Go.Lib.bitLenAux f x ∧ 1 ≤ Go.Lib.bitLenAux f x ∧ Go.Lib.bitLenAux f x ≤ f
 | 0, x, h, h0 => by simp at h; omega
 | f + 1, x, h, h0 => by
  rw [Go.Lib.bitLenAux, if_neg h0]
  by_cases hx : x / 2 = 0
  ·
   have : x = 1 := by omega
   subst this
   have z : Go.Lib.bitLenAux f (1 / 2) = 0 := by cases f <;> simp [Go.Lib.bitLenAux]
   rw [z]
   simp
  ·
   have := bitLen_bounds f (x / 2) (by rw [Nat.pow_succ] at h; omega) hx
   obtain ⟨a, b, c, d⟩ := this
   generalize Go.Lib.bitLenAux f (x / 2) = k at *
   obtain ⟨j, rfl⟩ : ∃ j, k = j + 1 := ⟨k - 1, by omega⟩
   have e1 : 1 + (j + 1) - 1 = j + 1 := by omega
   have e2 : j + 1 - 1 = j := by omega
   rw [e1]
   rw [e2] at a
   have e3 : 1 + (j + 1) = j + 1 + 1 := by omega
   rw [e3]
   have p1 : 2 ^ (j + 1) = 2 ^ j * 2 := Nat.pow_succ 2 j
   have p2 : 2 ^ (j + 1 + 1) = 2 ^ (j + 1) * 2 := Nat.pow_succ 2 (j + 1)
   refine ⟨by omega, by omega, by omega, by omega⟩
theorem top_shift {y : Nat} (h0 : y ≠ 0) (h1 : y < 18446744073709551616) : ∃ s, 64 - (Go.Lib.bitLen y : Int) = (s : Nat) ∧ s < 64 ∧ 9223372036854775808 ≤ y * 2 ^ s ∧ y * 2 ^ s < 18446744073709551616 := by
 obtain ⟨a, b, c, d⟩ := bitLen_bounds 64 y h1 h0
 have e : Go.Lib.bitLen y = Go.Lib.bitLenAux 64 y := rfl
 rw [e]
 generalize Go.Lib.bitLenAux 64 y = k at *
 refine ⟨64 - k, by omega, by omega, ?_, ?_⟩
 ·
  have : 2 ^ (k - 1) * 2 ^ (64 - k) = 9223372036854775808 := by
   rw [← Nat.pow_add]
   have : k - 1 + (64 - k) = 63 := by omega
   rw [this]
  rw [← this]
  exact Nat.mul_le_mul_right _ a
 ·
  have : 2 ^ k * 2 ^ (64 - k) = 18446744073709551616 := by
   rw [← Nat.pow_add]
   have : k + (64 - k) = 64 := by omega
   rw [this]
  rw [← this]
  exact (Nat.mul_lt_mul_right (Nat.pos_of_ne_zero (by simp))).2 b
end Go.Proofs.YtjgckfcocmhnhaaGreatDoor
namespace Go.Proofs
open Go.Shelf
def Tryz.lays134_ren : Go.Shelf.Ren := ⟨fun | 134 => 115 | 129 => 130 | n => n, fun | 53 => 106 | 3 => 3 | 4 => 4 | 46 => 147 | 5 => 5 | 9 => 9 | n => n, fun | n => n⟩
theorem Tryz.lays134 : Go.Proofs.Lays.n134 Tryz.prog Tryz.lays134_ren := {
 mixed := by kernel_rfl
 f129 := Tryz.func130.trans (congrArg some (by kernel_rfl))
 f134 := Tryz.func115.trans (congrArg some (by kernel_rfl))
 t3 := Tryz.underlying3
 a3 := Tryz.isAgg3
 z3 := Tryz.sizeOf3
 v3 := Tryz.zeroValue3
 t4 := Tryz.underlying4
 a4 := Tryz.isAgg4
 z4 := Tryz.sizeOf4
 v4 := Tryz.zeroValue4
 t5 := Tryz.underlying5
 a5 := Tryz.isAgg5
 z5 := Tryz.sizeOf5
 v5 := Tryz.zeroValue5
 t9 := Tryz.underlying9
 a9 := Tryz.isAgg9
 z9 := Tryz.sizeOf9
 v9 := Tryz.zeroValue9
 t46 := Tryz.underlying147
 a46 := Tryz.isAgg147
 z46 := Tryz.sizeOf147
 v46 := Tryz.zeroValue147
 t53 := Tryz.underlying106
 a53 := Tryz.isAgg106
 z53 := Tryz.sizeOf106
 v53 := Tryz.zeroValue106 }
/-- bits.LeadingZeros64: "LeadingZeros64 returns the number of leading zero bits in x; the result is 64 for x == 0.": IT RETURNS '64 - Lib.bitLen x'; the world is as it was. ITS CALLEE bits.Len64 IS MET BY ITS OWN CONTRACT OFF THE SHELF (lay that first): entered in place it sends the kernel out of memory. (LAID: no walk: one application.) -/
theorem Tryz.bits_LeadingZeros64 (x : Int) (w : World) (h0 : 0 ≤ x) (h1 : x ≤ 18446744073709551615) :
  Calls Tryz.prog 115 #[.int .u64 x] w fun e w' => e = .returned (.int .i64 (64 - (Lib.bitLen x.toNat : Int))) ∧ w' = w := Any.bits_LeadingZeros64 Tryz.lays134 x w h0 h1
def Tryz.lays264_ren : Go.Shelf.Ren := ⟨fun | 264 => 87 | n => n, fun | 53 => 106 | 46 => 147 | n => n, fun | n => n⟩
theorem Tryz.lays264 : Go.Proofs.Lays.n264 Tryz.prog Tryz.lays264_ren := {
 mixed := by kernel_rfl
 f264 := Tryz.func87.trans (congrArg some (by kernel_rfl))
 t46 := Tryz.underlying147
 a46 := Tryz.isAgg147
 z46 := Tryz.sizeOf147
 v46 := Tryz.zeroValue147
 t53 := Tryz.underlying106
 a53 := Tryz.isAgg106
 z53 := Tryz.sizeOf106
 v53 := Tryz.zeroValue106 }
open Go.RowKit Go.Lib in
theorem Tryz.bits_Mul64 (x y : Nat) (hx : x < 18446744073709551616) (hy : y < 18446744073709551616) (w : World) :
  Calls Tryz.prog 87 #[.int .u64 x, .int .u64 y] w fun e w' => e = .returned (.tuple #[.int .u64 ((x * y / 18446744073709551616 : Nat) : Int), .int .u64 ((x * y % 18446744073709551616 : Nat) : Int)]) ∧ w' = w := Any.bits_Mul64 Tryz.lays264 x y hx hy w
end Go.Proofs
namespace Go.Proofs.YtjgckfcocmhnhaaGreatDoor
open Go.RowKit
theorem below_drewN {B : Nat} {a w : World} (h : Below B a w) (k : Nat) : Below B a (w.drewN k) := ⟨h.os, h.tape, h.output, h.size, h.block⟩
set_option maxHeartbeats 1000000 in
theorem div_low (lo y : Nat) (w : World) (hl : lo < 18446744073709551616) (h0 : y ≠ 0) :
  Calls Tryz.prog 88 #[.int .u64 0, .int .u64 lo, .int .u64 y] w fun e w' => ∃ r : Int, e = .returned (.tuple #[.int .u64 ((lo / y : Nat) : Int), .int .u64 r]) ∧ Below w.heap.size w w' := by
 have h1 : ¬ (y : Int) = 0 := by omega
 have h2 : ¬ (y : Int) ≤ 0 := by omega
 have h3 : (0 : Int) < y := by omega
 have h4 : lo / y ≤ lo := Nat.div_le_self _ _
 have h5 : (lo : Int) / y = ((lo / y : Nat) : Int) := by simp
 generalize lo / y = q at *
 have h6 : IntKind.u64.wrap (q : Int) = q := by rw [IntKind.wrap_u64]; omega
 go_enter Tryz.func88, Tryz.ntmps88
 go_wp2_with fail
 go_quiet (fail)
 go_wp2
 go_ret2
 exact ⟨_, rfl, below_drewN (Below.refl _ _) _⟩
theorem wrap_nat (a : Nat) (h : a < 18446744073709551616) : IntKind.u64.wrap (a : Int) = a := by rw [IntKind.wrap_u64]; omega
theorem and_mask (a : Nat) (h : a < 18446744073709551616) : bits .and .u64 (a : Int) 4294967295 = ((a % 4294967296 : Nat) : Int) := by
 have h := bits_and_u64_nat a 4294967295 h (by omega)
 have e : a &&& 4294967295 = a % 4294967296 := Nat.and_two_pow_sub_one_eq_mod a 32
 rw [e] at h
 exact h
theorem cast_shift (a s : Nat) : (a : Int) * 2 ^ s = ((a * 2 ^ s : Nat) : Int) := by simp
/-- A word shifted up, and what comes in from the one below it. -/
theorem or_shift (hi lo s : Nat) (hs : s < 64) (hh : hi * 2 ^ s < 18446744073709551616) (hl : lo < 18446744073709551616) :
  bits .or .u64 ((hi * 2 ^ s : Nat) : Int) ((lo / 2 ^ (64 - s) : Nat) : Int) = ((hi * 2 ^ s + lo / 2 ^ (64 - s) : Nat) : Int) := by
 have hb : lo / 2 ^ (64 - s) < 2 ^ s := by
  rw [Nat.div_lt_iff_lt_mul (Nat.pos_of_ne_zero (by simp)), ← Nat.pow_add]
  have : s + (64 - s) = 64 := by omega
  rw [this]
  exact hl
 have hp : 2 ^ s < 18446744073709551616 := by
  have : 2 ^ s < 2 ^ 64 := Nat.pow_lt_pow_right (by omega) hs
  exact this
 rw [bits_or_u64_nat _ _ hh (by omega)]
 congr 1
 rw [Nat.mul_comm]
 exact (Nat.two_pow_add_eq_or_of_lt hb hi).symm
theorem join_words (c a b : Nat) (hB : b / 4294967296 * 4294967296 + b % 4294967296 = b) : (c + a) * (4294967296 * 4294967296) + b / 4294967296 * 4294967296 + b % 4294967296 = c * 18446744073709551616 + (a * 18446744073709551616 + b) := by
 rw [Nat.add_assoc, hB, Nat.add_mul, Nat.add_assoc]
/-- What the first rows of the division make. -/
theorem div_parts (hi lo y s : Nat) (hl : lo < 18446744073709551616) (hh : hi < y) (hs : s < 64) (h2 : 9223372036854775808 ≤ y * 2 ^ s) (h3 : y * 2 ^ s < 18446744073709551616) :
  ∃ Y Y1 Y0 U V V1 V0 : Nat, IntKind.u64.wrap ((y : Int) * 2 ^ s) = (Y : Int) ∧ (Y : Int) / 4294967296 = (Y1 : Int) ∧ bits .and .u64 (Y : Int) 4294967295 = (Y0 : Int) ∧
   bits .or .u64 (IntKind.u64.wrap ((hi : Int) * 2 ^ s)) ((lo : Int) / 2 ^ (64 - s)) = (U : Int) ∧ IntKind.u64.wrap ((lo : Int) * 2 ^ s) = (V : Int) ∧ (V : Int) / 4294967296 = (V1 : Int) ∧ bits .and .u64 (V : Int) 4294967295 = (V0 : Int) ∧
   Y = Y1 * 4294967296 + Y0 ∧ 2147483648 ≤ Y1 ∧ Y1 < 4294967296 ∧ Y0 < 4294967296 ∧ V1 < 4294967296 ∧ V0 < 4294967296 ∧ U < Y1 * 4294967296 + Y0 ∧
   (U * (4294967296 * 4294967296) + V1 * 4294967296 + V0) / (Y1 * 4294967296 + Y0) = (hi * 18446744073709551616 + lo) / y := by
 have hyp : hi * 2 ^ s < 18446744073709551616 := Nat.lt_of_le_of_lt (Nat.mul_le_mul_right _ (Nat.le_of_lt hh)) h3
 have hpp : 0 < 2 ^ s := Nat.pos_of_ne_zero (by simp)
 have hpq : 0 < 2 ^ (64 - s) := Nat.pos_of_ne_zero (by simp)
 have hpow : 2 ^ s * 2 ^ (64 - s) = 18446744073709551616 := by
  rw [← Nat.pow_add]
  have : s + (64 - s) = 64 := by omega
  rw [this]
 refine ⟨y * 2 ^ s, y * 2 ^ s / 4294967296, y * 2 ^ s % 4294967296, hi * 2 ^ s + lo / 2 ^ (64 - s), lo * 2 ^ s % 18446744073709551616, lo * 2 ^ s % 18446744073709551616 / 4294967296, lo * 2 ^ s % 18446744073709551616 % 4294967296, ?_, ?_, ?_, ?_, ?_, ?_, ?_, ?_, ?_, ?_, ?_, ?_, ?_, ?_, ?_⟩
 ·
  rw [cast_shift, wrap_nat _ h3]
 ·
  omega
 ·
  exact and_mask _ h3
 ·
  rw [cast_shift, wrap_nat _ hyp]
  have : (lo : Int) / 2 ^ (64 - s) = ((lo / 2 ^ (64 - s) : Nat) : Int) := by simp
  rw [this]
  exact or_shift hi lo s hs hyp hl
 ·
  rw [cast_shift, IntKind.wrap_u64]
  omega
 ·
  omega
 ·
  exact and_mask _ (by omega)
 ·
  omega
 ·
  omega
 ·
  omega
 ·
  omega
 ·
  omega
 ·
  omega
 ·
  have e : y * 2 ^ s / 4294967296 * 4294967296 + y * 2 ^ s % 4294967296 = y * 2 ^ s := by omega
  rw [e]
  have hb : lo / 2 ^ (64 - s) < 2 ^ s := by
   rw [Nat.div_lt_iff_lt_mul hpq, hpow]
   exact hl
  have : (hi + 1) * 2 ^ s ≤ y * 2 ^ s := Nat.mul_le_mul_right _ hh
  rw [Nat.add_mul, Nat.one_mul] at this
  omega
 ·
  have e : y * 2 ^ s / 4294967296 * 4294967296 + y * 2 ^ s % 4294967296 = y * 2 ^ s := by omega
  rw [e]
  have e2 : (hi * 2 ^ s + lo / 2 ^ (64 - s)) * (4294967296 * 4294967296) + lo * 2 ^ s % 18446744073709551616 / 4294967296 * 4294967296 + lo * 2 ^ s % 18446744073709551616 % 4294967296 = (hi * 18446744073709551616 + lo) * 2 ^ s := by
   have d := Nat.div_add_mod lo (2 ^ (64 - s))
   have f : lo * 2 ^ s = lo / 2 ^ (64 - s) * 18446744073709551616 + lo % 2 ^ (64 - s) * 2 ^ s := by
    rw [← hpow]
    conv => lhs; rw [← d]
    rw [Nat.add_mul, Nat.mul_comm (2 ^ (64 - s)) (lo / 2 ^ (64 - s)), Nat.mul_assoc, Nat.mul_comm (2 ^ (64 - s)) (2 ^ s)]
   have g : lo % 2 ^ (64 - s) * 2 ^ s < 18446744073709551616 := by
    rw [← hpow, Nat.mul_comm (2 ^ s)]
    exact (Nat.mul_lt_mul_right hpp).2 (Nat.mod_lt _ hpq)
   rw [Nat.add_mul (hi * 18446744073709551616) lo, f]
   generalize lo / 2 ^ (64 - s) = a at *
   generalize lo % 2 ^ (64 - s) * 2 ^ s = b at *
   have hX : (a * 18446744073709551616 + b) % 18446744073709551616 = b := by omega
   rw [hX]
   have k : hi * 18446744073709551616 * 2 ^ s = hi * 2 ^ s * 18446744073709551616 := Nat.mul_right_comm _ _ _
   rw [k]
   generalize hi * 2 ^ s = c at *
   have hB : b / 4294967296 * 4294967296 + b % 4294967296 = b := Nat.div_add_mod' b 4294967296
   exact join_words c a b hB
  rw [e2, Nat.mul_div_mul_right _ _ hpp]
theorem int_eq {k : IntKind} {a b : Int} (h : a = b) : Value.int k a = Value.int k b := by rw [h]
/-- The beginning of a step: the first guess and what it leaves. -/
theorem half_begin {u d y1 y0 : Nat} (p2 : 2147483648 ≤ y1) (p3 : y1 < 4294967296) (p4 : y0 < 4294967296) (p5 : d < 4294967296) (p7 : u < y1 * 4294967296 + y0) :
  ∃ q A r : Nat, (u : Int) / y1 = (q : Int) ∧ IntKind.u64.wrap (q : Int) = q ∧ IntKind.u64.wrap ((q : Int) * y1) = (A : Int) ∧ IntKind.u64.wrap ((u : Int) - A) = (r : Int) ∧ Hid (HalfInv u d y1 y0 q r) := by
 have i1 := HalfInv.start p2 p3 p4 p5 p7
 have h := Nat.div_mul_le_self u y1
 refine ⟨u / y1, u / y1 * y1, u - u / y1 * y1, by simp, wrap_nat _ ?_, ?_, ?_, i1⟩
 ·
  have := i1.2.2.2
  omega
 ·
  rw [← Int.natCast_mul, wrap_nat _ (by omega)]
 ·
  rw [IntKind.wrap_u64]
  omega
/-- What is left behind a step. -/
theorem half_left {u d y : Nat} (hu : u < y) (hy : y < 18446744073709551616) :
  ∃ X1 X2 X3 R : Nat, IntKind.u64.wrap ((u : Int) * 4294967296) = (X1 : Int) ∧ IntKind.u64.wrap ((X1 : Int) + d) = (X2 : Int) ∧ IntKind.u64.wrap ((((u * 4294967296 + d) / y : Nat) : Int) * y) = (X3 : Int) ∧ IntKind.u64.wrap ((X2 : Int) - X3) = (R : Int) ∧ R = u * 4294967296 + d - (u * 4294967296 + d) / y * y ∧ R < y := by
 have hr := rest_lt (u * 4294967296 + d) y (by omega)
 have hl := Nat.div_mul_le_self (u * 4294967296 + d) y
 generalize (u * 4294967296 + d) / y = T at *
 have e : ((T : Nat) : Int) * y = ((T * y : Nat) : Int) := (Int.natCast_mul T y).symm
 rw [e]
 generalize T * y = P at *
 refine ⟨u * 4294967296 % 18446744073709551616, (u * 4294967296 % 18446744073709551616 + d) % 18446744073709551616, P % 18446744073709551616, u * 4294967296 + d - P, ?_, ?_, ?_, ?_, rfl, hr⟩
 ·
  rw [IntKind.wrap_u64]; omega
 ·
  rw [IntKind.wrap_u64]; omega
 ·
  rw [IntKind.wrap_u64]; omega
 ·
  rw [IntKind.wrap_u64]; omega
set_option maxHeartbeats 4000000 in
theorem div_high (hi lo y : Nat) (w : World) (hl : lo < 18446744073709551616) (hy : y < 18446744073709551616) (hh : hi < y) (h0 : hi ≠ 0) :
  Calls Tryz.prog 88 #[.int .u64 hi, .int .u64 lo, .int .u64 y] w fun e w' => ∃ r : Int, e = .returned (.tuple #[.int .u64 (((hi * 18446744073709551616 + lo) / y : Nat) : Int), .int .u64 r]) ∧ Below w.heap.size w w' := by
 have h1 : ¬ (y : Int) = 0 := by omega
 have h2 : ¬ (y : Int) ≤ hi := by omega
 have h3 : ¬ (hi : Int) = 0 := by omega
 obtain ⟨s, hs, hs1, hs2, hs3⟩ := top_shift (by omega : y ≠ 0) hy
 obtain ⟨Y, Y1, Y0, U, V, V1, V0, e1, e2, e3, e4, e5, e6, e7, p1, p2, p3, p4, p5, p6, p7, p8⟩ := div_parts hi lo y s hl hh hs1 hs2 hs3
 have iY1 : ¬ (Y1 : Int) = 0 := by omega
 obtain ⟨q1, A1, r1, a1, a2, a3, a4, I1⟩ := half_begin p2 p3 p4 p5 p7
 obtain ⟨X1, X2, X3, R, x1, x2, x3, x4, x5, x6⟩ := half_left (d := V1) (y := Y) (by omega : U < Y) (by omega)
 have p9 : R < Y1 * 4294967296 + Y0 := by omega
 obtain ⟨q2, A2, r2, b1, b2, b3, b4, I2⟩ := half_begin p2 p3 p4 p6 p9
 have t1 := half_digit (y := Y1 * 4294967296 + Y0) p5 p7
 have t2 := half_digit (y := Y1 * 4294967296 + Y0) p6 p9
 rw [p1] at x3 x5
 have TT : Hid _ := two_steps 4294967296 U V1 V0 (Y1 * 4294967296 + Y0) (by omega) _ _ R rfl x5 rfl
 rw [p8] at TT
 obtain ⟨T1, hT1⟩ : ∃ T1, (U * 4294967296 + V1) / (Y1 * 4294967296 + Y0) = T1 := ⟨_, rfl⟩
 obtain ⟨T2, hT2⟩ : ∃ T2, (R * 4294967296 + V0) / (Y1 * 4294967296 + Y0) = T2 := ⟨_, rfl⟩
 rw [hT1] at t1 x3 TT
 rw [hT2] at t2 TT
 rw [← p1] at x3
 have HT1 : Hid _ := hT1
 have HT2 : Hid _ := hT2
 have HS : Hid _ := hs
 have P7 : Hid _ := p7
 have P9 : Hid _ := p9
 obtain ⟨Z1, z1, z1'⟩ : ∃ Z1 : Nat, IntKind.u64.wrap ((T1 : Int) * 4294967296) = (Z1 : Int) ∧ Z1 = T1 * 4294967296 := ⟨_, by rw [IntKind.wrap_u64]; omega, rfl⟩
 obtain ⟨Z2, z2, z2'⟩ : ∃ Z2 : Nat, IntKind.u64.wrap ((Z1 : Int) + T2) = (Z2 : Int) ∧ Z2 = T1 * 4294967296 + T2 := ⟨T1 * 4294967296 + T2, by rw [IntKind.wrap_u64]; omega, rfl⟩
 rw [← TT.out, ← z2']
 clear hs hs2 hs3 p1 p8 p7 p9 hT1 hT2 x5 x6 z1' z2'
 go_enter Tryz.func88, Tryz.ntmps88
 go_upto_block 0 with (go_at_call 115; refine (Tryz.bits_LeadingZeros64 _ _ (by omega) (by omega)).mono ?_; rintro e w' ⟨rfl, rfl⟩; rw [Int.toNat_natCast, HS.out])
 go_cut [15, 16] from 67 to 85 (fun a b wx => a = .int .u64 T1 ∧ wx = w')
 case first =>
  go_wp2_with fail
  go_loop [15, 16] (fun a b => ∃ q r : Nat, a = .int .u64 q ∧ b = .int .u64 r ∧ HalfInv U V1 Y1 Y0 q r) (fun a _ => (intOf a).toNat)
  case atStart => exact ⟨_, _, rfl, rfl, I1.out⟩
  case round =>
   obtain ⟨q, r, rfl, rfl, hi1⟩ := hrel
   have HI : Hid (HalfInv U V1 Y1 Y0 q r) := hi1
   obtain ⟨_, _, r1, r2⟩ := hi1
   by_cases c1 : 4294967296 ≤ q
   ·
    have c1' : (4294967296 : Int) ≤ q := by omega
    have hd := HalfInv.down HI.out p5 P7.out (Or.inl c1)
    by_cases c2 : 4294967296 ≤ r + Y1
    ·
     have c2' : (4294967296 : Int) ≤ (r : Int) + Y1 := by omega
     have hz := HalfInv.broke (by omega) p4 hd.2.1 hd.2.2.1 hd.2.2.2 c2
     rw [HT1.out] at hz
     clear hd
     go_wp2_with fail
     go_meet
     exact ⟨int_eq (by omega), rfl⟩
    ·
     have c2' : ¬ (4294967296 : Int) ≤ (r : Int) + Y1 := by omega
     have hz : Hid (HalfInv U V1 Y1 Y0 (q - 1) (r + Y1)) := ⟨hd.2.1, hd.2.2.1, by omega, by omega⟩
     clear hd
     go_wp2_with fail
     go_round
     case rel => exact ⟨q - 1, r + Y1, int_eq (by omega), int_eq (by omega), hz.out⟩
     case measure => simp [intOf]; omega
   ·
    have c1' : ¬ (4294967296 : Int) ≤ q := by omega
    have hC : q * Y0 < 18446744073709551616 := by
     have : q * Y0 ≤ 4294967295 * 4294967295 := Nat.mul_le_mul (by omega) (by omega)
     omega
    have hCw : IntKind.u64.wrap ((q : Int) * Y0) = ((q * Y0 : Nat) : Int) := by rw [← Int.natCast_mul, wrap_nat _ hC]
    by_cases c3 : 4294967296 * r + V1 < q * Y0
    ·
     have hd := HalfInv.down HI.out p5 P7.out (Or.inr c3)
     have c3' : 4294967296 * (r : Int) + V1 < ((q * Y0 : Nat) : Int) := by omega
     have HC : Hid _ := c3
     clear c3 hC
     generalize q * Y0 = C at *
     by_cases c2 : 4294967296 ≤ r + Y1
     ·
      have c2' : (4294967296 : Int) ≤ (r : Int) + Y1 := by omega
      have hz := HalfInv.broke (by omega) p4 hd.2.1 hd.2.2.1 hd.2.2.2 c2
      have hq1 := hd.1
      rw [HT1.out] at hz
      clear hd
      go_wp2_with fail
      go_meet
      exact ⟨int_eq (by omega), rfl⟩
     ·
      have c2' : ¬ (4294967296 : Int) ≤ (r : Int) + Y1 := by omega
      have hz : Hid (HalfInv U V1 Y1 Y0 (q - 1) (r + Y1)) := ⟨hd.2.1, hd.2.2.1, by omega, by omega⟩
      have hq1 := hd.1
      clear hd
      go_wp2_with fail
      go_round
      case rel => exact ⟨q - 1, r + Y1, int_eq (by omega), int_eq (by omega), hz.out⟩
      case measure => simp [intOf]; omega
    ·
     have hz := HalfInv.stop HI.out (by omega) (by omega)
     rw [HT1.out] at hz
     have Hz : Hid _ := hz
     have c3' : ((q * Y0 : Nat) : Int) ≤ 4294967296 * (r : Int) + V1 := by omega
     clear c3 hC hz
     generalize q * Y0 = C at *
     go_wp2_with fail
     go_meet
     exact ⟨by rw [Hz.out], rfl⟩
 case rest =>
  obtain ⟨rfl, rfl⟩ := hcut
  go_upto_block 2 with fail
  go_cut [18, 16] from 102 to 120 (fun a b wx => a = .int .u64 T2 ∧ wx = wc)
  case first =>
   go_wp2_with fail
   go_loop [18, 16] (fun a b => ∃ q r : Nat, a = .int .u64 q ∧ b = .int .u64 r ∧ HalfInv R V0 Y1 Y0 q r) (fun a _ => (intOf a).toNat)
   case atStart => exact ⟨_, _, rfl, rfl, I2.out⟩
   case round =>
    obtain ⟨q, r, rfl, rfl, hi1⟩ := hrel
    have HI : Hid (HalfInv R V0 Y1 Y0 q r) := hi1
    obtain ⟨_, _, r1, r2⟩ := hi1
    by_cases c1 : 4294967296 ≤ q
    ·
     have c1' : (4294967296 : Int) ≤ q := by omega
     have hd := HalfInv.down HI.out p6 P9.out (Or.inl c1)
     by_cases c2 : 4294967296 ≤ r + Y1
     ·
      have c2' : (4294967296 : Int) ≤ (r : Int) + Y1 := by omega
      have hz := HalfInv.broke (by omega) p4 hd.2.1 hd.2.2.1 hd.2.2.2 c2
      rw [HT2.out] at hz
      clear hd
      go_wp2_with fail
      go_meet
      exact ⟨int_eq (by omega), rfl⟩
     ·
      have c2' : ¬ (4294967296 : Int) ≤ (r : Int) + Y1 := by omega
      have hz : Hid (HalfInv R V0 Y1 Y0 (q - 1) (r + Y1)) := ⟨hd.2.1, hd.2.2.1, by omega, by omega⟩
      clear hd
      go_wp2_with fail
      go_round
      case rel => exact ⟨q - 1, r + Y1, int_eq (by omega), int_eq (by omega), hz.out⟩
      case measure => simp [intOf]; omega
    ·
     have c1' : ¬ (4294967296 : Int) ≤ q := by omega
     have hC : q * Y0 < 18446744073709551616 := by
      have : q * Y0 ≤ 4294967295 * 4294967295 := Nat.mul_le_mul (by omega) (by omega)
      omega
     have hCw : IntKind.u64.wrap ((q : Int) * Y0) = ((q * Y0 : Nat) : Int) := by rw [← Int.natCast_mul, wrap_nat _ hC]
     by_cases c3 : 4294967296 * r + V0 < q * Y0
     ·
      have hd := HalfInv.down HI.out p6 P9.out (Or.inr c3)
      have c3' : 4294967296 * (r : Int) + V0 < ((q * Y0 : Nat) : Int) := by omega
      have HC : Hid _ := c3
      clear c3 hC
      generalize q * Y0 = C at *
      by_cases c2 : 4294967296 ≤ r + Y1
      ·
       have c2' : (4294967296 : Int) ≤ (r : Int) + Y1 := by omega
       have hz := HalfInv.broke (by omega) p4 hd.2.1 hd.2.2.1 hd.2.2.2 c2
       have hq1 := hd.1
       rw [HT2.out] at hz
       clear hd
       go_wp2_with fail
       go_meet
       exact ⟨int_eq (by omega), rfl⟩
      ·
       have c2' : ¬ (4294967296 : Int) ≤ (r : Int) + Y1 := by omega
       have hz : Hid (HalfInv R V0 Y1 Y0 (q - 1) (r + Y1)) := ⟨hd.2.1, hd.2.2.1, by omega, by omega⟩
       have hq1 := hd.1
       clear hd
       go_wp2_with fail
       go_round
       case rel => exact ⟨q - 1, r + Y1, int_eq (by omega), int_eq (by omega), hz.out⟩
       case measure => simp [intOf]; omega
     ·
      have hz := HalfInv.stop HI.out (by omega) (by omega)
      rw [HT2.out] at hz
      have Hz : Hid _ := hz
      have c3' : ((q * Y0 : Nat) : Int) ≤ 4294967296 * (r : Int) + V0 := by omega
      clear c3 hC hz
      generalize q * Y0 = C at *
      go_wp2_with fail
      go_meet
      exact ⟨by rw [Hz.out], rfl⟩
  case rest =>
   obtain ⟨rfl, rfl⟩ := hcut
   go_wp2
   go_ret2
   exact ⟨_, rfl, Below.refl _ _⟩
end Go.Proofs.YtjgckfcocmhnhaaGreatDoor
namespace Go.Proofs.YtjgckfcocmhnhaaGreatDoor
open Go.RowKit
/-- a times b over c, with a sign. -/
def fScale (neg : Bool) (a b c : Nat) : Option Int := if c = 0 then none else sgn neg (a * b / c)
theorem sgn_big {neg : Bool} {m : Nat} (h : 9223372036854775807 < m) : sgn neg m = none := by unfold sgn; rw [if_pos h]
theorem scale_over {neg : Bool} {a b c : Nat} (h : c ≤ a * b / 18446744073709551616) : fScale neg a b c = none := by
 unfold fScale
 by_cases hc : c = 0
 ·
  rw [if_pos hc]
 ·
  rw [if_neg hc]
  refine sgn_big ?_
  have h1 := (Nat.le_div_iff_mul_le (by omega : 0 < 18446744073709551616)).1 h
  rw [Nat.mul_comm] at h1
  have := (Nat.le_div_iff_mul_le (by omega : 0 < c)).2 h1
  omega
theorem div_any (hi lo y : Nat) (w : World) (hl : lo < 18446744073709551616) (hy : y < 18446744073709551616) (hh : hi < y) :
  Calls Tryz.prog 88 #[.int .u64 hi, .int .u64 lo, .int .u64 y] w fun e w' => ∃ r : Int, e = .returned (.tuple #[.int .u64 (((hi * 18446744073709551616 + lo) / y : Nat) : Int), .int .u64 r]) ∧ Below w.heap.size w w' := by
 by_cases h0 : hi = 0
 ·
  subst h0
  have e : 0 * 18446744073709551616 + lo = lo := by omega
  rw [e]
  exact div_low lo y w hl (by omega)
 ·
  exact div_high hi lo y w hl hy hh h0
theorem quot_lt {a b c : Nat} (h : ¬ c ≤ a * b / 18446744073709551616) : a * b / c < 18446744073709551616 := by
 have h1 : a * b / 18446744073709551616 < c := by omega
 rw [Nat.div_lt_iff_lt_mul (by omega)] at h1
 rw [Nat.div_lt_iff_lt_mul (by omega)]
 omega
set_option maxHeartbeats 1000000 in
theorem scaled_any (neg : Bool) (a b c : Nat) (w : World) (ha : a < 18446744073709551616) (hb : b < 18446744073709551616) (hc : c < 18446744073709551616) :
  Calls Tryz.prog 52 #[.bool neg, .int .u64 a, .int .u64 b, .int .u64 c] w fun e w' => e = .returned (.agg #[.bool (ov (fScale neg a b c)), .int .i64 (nn (fScale neg a b c))]) ∧ Below w.heap.size w w' := by
 have hx := Box.new w false 0
 have hb0 : Below w.heap.size w (w.alloc (.cells #[.bool false, .int .i64 0] 33)) := bal (Below.refl _ _) _
 have hm := Tryz.bits_Mul64 a b ha hb
 have hlo : a * b % 18446744073709551616 < 18446744073709551616 := Nat.mod_lt _ (by omega)
 have hN : a * b / 18446744073709551616 * 18446744073709551616 + a * b % 18446744073709551616 = a * b := Nat.div_add_mod' _ _
 by_cases h : c ≤ a * b / 18446744073709551616
 ·
  rw [scale_over h]
  have h' : (c : Int) ≤ ((a * b / 18446744073709551616 : Nat) : Int) := by omega
  generalize a * b / 18446744073709551616 = H at *
  generalize a * b % 18446744073709551616 = L at *
  clear hN h
  go_enter Tryz.func52, Tryz.ntmps52
  go_wp2_with (go_at_call 87; refine (hm _).mono ?_; rintro e w' ⟨rfl, rfl⟩)
  refine (overflow_any _).mono ?_
  rintro e w1 ⟨rfl, hb1⟩
  obtain ⟨c0, c1, f0, f1⟩ := hx.later hb1
  go_wp2
  exact bodyPost_ret (v := .agg #[.bool true, .int .i64 0]) (by simp [results, Tryz.results52, go_sem, c0, c1]) rfl ⟨rfl, put2 (Below.chain hb0 hb1) (by omega) _ _⟩
 ·
  have hq := quot_lt h
  have e : fScale neg a b c = sgn neg (a * b / c) := by unfold fScale; rw [if_neg (by omega)]
  rw [e]
  have h' : ¬ (c : Int) ≤ ((a * b / 18446744073709551616 : Nat) : Int) := by omega
  generalize a * b / 18446744073709551616 = H at *
  generalize a * b % 18446744073709551616 = L at *
  have hd := fun w => div_any H L c w hlo hc (by omega)
  rw [hN] at hd
  generalize a * b / c = Q at *
  clear hN h
  go_enter Tryz.func52, Tryz.ntmps52
  go_wp2_with (go_at_call 87; refine (hm _).mono ?_; rintro e w' ⟨rfl, rfl⟩)
  refine (hd _).mono ?_
  rintro e w1 ⟨r, rfl, hb1⟩
  go_wp2_with fail
  refine (signed_any _ _ _ hq).mono ?_
  rintro e w2 ⟨rfl, hb2⟩
  have hb3 := Below.chain hb1 hb2
  obtain ⟨c0, c1, f0, f1⟩ := hx.later hb3
  go_wp2
  exact bodyPost_ret (v := .agg #[.bool (ov (sgn neg Q)), .int .i64 (nn (sgn neg Q))]) (by simp [results, Tryz.results52, go_sem, c0, c1]) rfl ⟨rfl, put2 (Below.chain hb0 hb3) (by omega) _ _⟩
theorem sgn_pos (m : Nat) : sgn false m = norm (m : Int) := by
 unfold sgn norm
 by_cases h : 9223372036854775807 < m
 ·
  rw [if_pos h, if_neg (by omega)]
 ·
  rw [if_neg h]
  show some (m : Int) = _
  rw [if_pos (by omega)]
theorem sgn_neg (m : Nat) : sgn true m = norm (-(m : Int)) := by
 unfold sgn norm
 by_cases h : 9223372036854775807 < m
 ·
  rw [if_pos h, if_neg (by omega)]
 ·
  rw [if_neg h]
  show some (-(m : Int)) = _
  rw [if_pos (by omega)]
def fOf (n : Int) : Option Int := norm (n * 1000000)
theorem scale_of (n : Int) : fScale (decide (n < 0)) n.natAbs 1000000 1 = fOf n := by
 unfold fScale fOf
 rw [if_neg (by omega), Nat.div_one]
 by_cases h : n < 0
 ·
  rw [decide_eq_true h, sgn_neg]
  congr 1
  omega
 ·
  rw [decide_eq_false h, sgn_pos]
  congr 1
  omega
set_option maxHeartbeats 1000000 in
theorem of_any (n : Int) (w : World) (hn : R64 n) : Calls Tryz.prog 18 #[.int .i64 n] w fun e w' => e = .returned (.agg #[.bool (ov (fOf n)), .int .i64 (nn (fOf n))]) ∧ Below w.heap.size w w' := by
 have hx := Box.new w false 0
 have hb0 : Below w.heap.size w (w.alloc (.cells #[.bool false, .int .i64 0] 33)) := bal (Below.refl _ _) _
 have hs := scaled_any (decide (n < 0)) n.natAbs 1000000 1
 rw [scale_of] at hs
 have hu : n.natAbs < 18446744073709551616 := by have := hn.1; have := hn.2; omega
 have H1 := hn.1
 have H2 := hn.2
 go_enter Tryz.func18, Tryz.ntmps18
 go_wp2_with (go_at_call 53; refine (mag_any _ _ H1 H2).mono ?_; rintro e w' ⟨rfl, rfl⟩)
 refine (hs _ hu (by omega) (by omega)).mono ?_
 rintro e w1 ⟨rfl, hb1⟩
 obtain ⟨c0, c1, f0, f1⟩ := hx.later hb1
 go_wp2
 exact bodyPost_ret (v := .agg #[.bool (ov (fOf n)), .int .i64 (nn (fOf n))]) (by simp [results, Tryz.results18, go_sem, c0, c1]) rfl ⟨rfl, put2 (Below.chain hb0 hb1) (by omega) _ _⟩
set_option maxHeartbeats 1000000 in
theorem rsigned_any (b : Bool) (m : Nat) (w : World) (hm : m < 18446744073709551616) : Calls Tryz.prog 128 #[.int .u64 m, .bool b] w fun e w' => e = .returned (.agg #[.bool (ov (sgn b m)), .int .i64 (nn (sgn b m))]) ∧ Below w.heap.size w w' := by
 unfold sgn
 by_cases h : 9223372036854775807 < m
 ·
  have hd : (9223372036854775807 : Int) < m := by omega
  rw [if_pos h]
  go_enter Tryz.func128, Tryz.ntmps128
  go_wp2_with fail
  refine (ovf_any _).mono ?_
  rintro e w1 ⟨rfl, hb1⟩
  obtain ⟨c0, c1, f0, f1⟩ := (Box.new w false 0).later hb1
  go_wp2
  exact bodyPost_ret (v := .agg #[.bool true, .int .i64 0]) (by simp [results, Tryz.results128, go_sem, c0, c1]) rfl ⟨rfl, put2 (Below.chain (bal (Below.refl _ _) _) hb1) (by omega) _ _⟩
 ·
  have hd : ¬ (9223372036854775807 : Int) < m := by omega
  rw [if_neg h]
  have e1 : IntKind.i64.wrap (m : Int) = m := by rw [IntKind.wrap_i64]; omega
  have e2 : IntKind.i64.wrap (-(m : Int)) = -(m : Int) := by rw [IntKind.wrap_i64]; omega
  cases b with
  | true =>
   go_enter Tryz.func128, Tryz.ntmps128
   go_wp2
   exact bodyPost_ret (v := .agg #[.bool false, .int .i64 (-(m : Int))]) (by simp [results, Tryz.results128, go_sem]) rfl ⟨rfl, bal (Below.refl _ _) _⟩
  | false =>
   go_enter Tryz.func128, Tryz.ntmps128
   go_wp2
   exact bodyPost_ret (v := .agg #[.bool false, .int .i64 (m : Int)]) (by simp [results, Tryz.results128, go_sem]) rfl ⟨rfl, bal (Below.refl _ _) _⟩
set_option maxHeartbeats 1000000 in
theorem over_any (neg : Bool) (a b c : Nat) (w : World) (ha : a < 18446744073709551616) (hb : b < 18446744073709551616) (hc : c < 18446744073709551616) :
  Calls Tryz.prog 110 #[.int .u64 a, .int .u64 b, .int .u64 c, .bool neg] w fun e w' => e = .returned (.agg #[.bool (ov (fScale neg a b c)), .int .i64 (nn (fScale neg a b c))]) ∧ Below w.heap.size w w' := by
 have hx := Box.new w false 0
 have hb0 : Below w.heap.size w (w.alloc (.cells #[.bool false, .int .i64 0] 33)) := bal (Below.refl _ _) _
 have hm := Tryz.bits_Mul64 a b ha hb
 have hlo : a * b % 18446744073709551616 < 18446744073709551616 := Nat.mod_lt _ (by omega)
 have hN : a * b / 18446744073709551616 * 18446744073709551616 + a * b % 18446744073709551616 = a * b := Nat.div_add_mod' _ _
 by_cases h : c ≤ a * b / 18446744073709551616
 ·
  rw [scale_over h]
  have h' : (c : Int) ≤ ((a * b / 18446744073709551616 : Nat) : Int) := by omega
  generalize a * b / 18446744073709551616 = H at *
  generalize a * b % 18446744073709551616 = L at *
  clear hN h
  go_enter Tryz.func110, Tryz.ntmps110
  go_wp2_with (go_at_call 87; refine (hm _).mono ?_; rintro e w' ⟨rfl, rfl⟩)
  refine (ovf_any _).mono ?_
  rintro e w1 ⟨rfl, hb1⟩
  obtain ⟨c0, c1, f0, f1⟩ := hx.later hb1
  go_wp2
  exact bodyPost_ret (v := .agg #[.bool true, .int .i64 0]) (by simp [results, Tryz.results110, go_sem, c0, c1]) rfl ⟨rfl, put2 (Below.chain hb0 hb1) (by omega) _ _⟩
 ·
  have hq := quot_lt h
  have e : fScale neg a b c = sgn neg (a * b / c) := by unfold fScale; rw [if_neg (by omega)]
  rw [e]
  have h' : ¬ (c : Int) ≤ ((a * b / 18446744073709551616 : Nat) : Int) := by omega
  generalize a * b / 18446744073709551616 = H at *
  generalize a * b % 18446744073709551616 = L at *
  have hd := fun w => div_any H L c w hlo hc (by omega)
  rw [hN] at hd
  generalize a * b / c = Q at *
  clear hN h
  go_enter Tryz.func110, Tryz.ntmps110
  go_wp2_with (go_at_call 87; refine (hm _).mono ?_; rintro e w' ⟨rfl, rfl⟩)
  refine (hd _).mono ?_
  rintro e w1 ⟨r, rfl, hb1⟩
  go_wp2_with fail
  refine (rsigned_any _ _ _ hq).mono ?_
  rintro e w2 ⟨rfl, hb2⟩
  have hb3 := Below.chain hb1 hb2
  obtain ⟨c0, c1, f0, f1⟩ := hx.later hb3
  go_wp2
  exact bodyPost_ret (v := .agg #[.bool (ov (sgn neg Q)), .int .i64 (nn (sgn neg Q))]) (by simp [results, Tryz.results110, go_sem, c0, c1]) rfl ⟨rfl, put2 (Below.chain hb0 hb3) (by omega) _ _⟩
end Go.Proofs.YtjgckfcocmhnhaaGreatDoor
namespace Go.Proofs.YtjgckfcocmhnhaaGreatDoor
open Go.RowKit
theorem abs_lt {a : Int} (h : R64 a) : a.natAbs < 18446744073709551616 := by have := h.1; have := h.2; omega
theorem sgn_tdiv (a b : Int) (k : Nat) : sgn (decide (a < 0) != decide (b < 0)) (a.natAbs * b.natAbs / k) = norm ((a * b).tdiv k) := by
 have hp : ∀ A B : Nat, ((A : Int) * (B : Int)).tdiv k = ((A * B / k : Nat) : Int) := fun A B => by
  rw [← Int.natCast_mul]
  rfl
 rcases Int.lt_or_le a 0 with ha | ha <;> rcases Int.lt_or_le b 0 with hb | hb
 ·
  obtain ⟨A, rfl⟩ : ∃ A : Nat, a = -(A : Int) := ⟨a.natAbs, by omega⟩
  obtain ⟨B, rfl⟩ : ∃ B : Nat, b = -(B : Int) := ⟨b.natAbs, by omega⟩
  rw [decide_eq_true ha, decide_eq_true hb, Int.neg_mul_neg, hp, Int.natAbs_neg, Int.natAbs_neg, Int.natAbs_natCast, Int.natAbs_natCast]
  exact sgn_pos _
 ·
  obtain ⟨A, rfl⟩ : ∃ A : Nat, a = -(A : Int) := ⟨a.natAbs, by omega⟩
  obtain ⟨B, rfl⟩ : ∃ B : Nat, b = (B : Int) := ⟨b.natAbs, by omega⟩
  rw [decide_eq_true ha, decide_eq_false (by omega), Int.neg_mul, Int.neg_tdiv, hp, Int.natAbs_neg, Int.natAbs_natCast, Int.natAbs_natCast]
  exact sgn_neg _
 ·
  obtain ⟨A, rfl⟩ : ∃ A : Nat, a = (A : Int) := ⟨a.natAbs, by omega⟩
  obtain ⟨B, rfl⟩ : ∃ B : Nat, b = -(B : Int) := ⟨b.natAbs, by omega⟩
  rw [decide_eq_false (by omega), decide_eq_true hb, Int.mul_neg, Int.neg_tdiv, hp, Int.natAbs_neg, Int.natAbs_natCast, Int.natAbs_natCast]
  exact sgn_neg _
 ·
  obtain ⟨A, rfl⟩ : ∃ A : Nat, a = (A : Int) := ⟨a.natAbs, by omega⟩
  obtain ⟨B, rfl⟩ : ∃ B : Nat, b = (B : Int) := ⟨b.natAbs, by omega⟩
  rw [decide_eq_false (by omega), decide_eq_false (by omega), hp, Int.natAbs_natCast, Int.natAbs_natCast]
  exact sgn_pos _
theorem scale_mul (a b : Int) : fScale (decide (a < 0) != decide (b < 0)) a.natAbs b.natAbs 1000000 = fMul (some a) (some b) := by
 unfold fScale
 rw [if_neg (by omega)]
 exact sgn_tdiv a b 1000000
theorem scale_div (a b : Int) : fScale (decide (a < 0) != decide (b < 0)) a.natAbs 1000000 b.natAbs = fDiv (some a) (some b) := by
 unfold fScale
 show _ = if b = 0 then none else _
 by_cases h : b = 0
 ·
  rw [if_pos h, if_pos (by omega)]
 ·
  rw [if_neg h, if_neg (by omega)]
  rcases Int.lt_or_le b 0 with hb | hb
  ·
   obtain ⟨B, rfl⟩ : ∃ B : Nat, b = -(B : Int) := ⟨b.natAbs, by omega⟩
   have e := sgn_tdiv (-a) 1000000 B
   rw [Int.natAbs_neg, Int.neg_mul, Int.neg_tdiv] at e
   rw [Int.tdiv_neg, ← e, Int.natAbs_neg, Int.natAbs_natCast, decide_eq_true hb]
   by_cases h0 : a = 0
   ·
    subst h0
    simp [sgn]
   ·
    congr 1
    rcases Int.lt_or_le a 0 with ha | ha
    ·
     rw [decide_eq_true ha, decide_eq_false (by omega)]
     rfl
    ·
     rw [decide_eq_false (by omega), decide_eq_true (by omega)]
     rfl
  ·
   obtain ⟨B, rfl⟩ : ∃ B : Nat, b = (B : Int) := ⟨b.natAbs, by omega⟩
   have e := sgn_tdiv a 1000000 B
   rw [← e, Int.natAbs_natCast, decide_eq_false (by omega : ¬ (B : Int) < 0)]
   rfl
set_option maxHeartbeats 2000000 in
theorem quo_any (o p : Bool) (n m : Int) (w : World) (hn : R64 n) (hm : R64 m) : Calls Tryz.prog 22 #[.agg #[.bool o, .int .i64 n], .agg #[.bool p, .int .i64 m]] w fun e w' => e = .returned (.agg #[.bool (ov (fDiv (cnt o n) (cnt p m))), .int .i64 (nn (fDiv (cnt o n) (cnt p m)))]) ∧ Below w.heap.size w w' := by
 have hVx : V (cnt o n) := V.cnt hn.1 hn.2
 have hVy : V (cnt p m) := V.cnt hm.1 hm.2
 obtain ⟨hx, hy, hz, hb⟩ := boxes3 w o p false n m 0
 generalize hX : cnt o n = x at *
 generalize hY : cnt p m = y at *
 go_enter Tryz.func22, Tryz.ntmps22
 go_wp2_with fail
 generalize ((w.alloc (.cells #[.bool o, .int .i64 n] 33)).alloc (.cells #[.bool p, .int .i64 m] 33)).alloc (.cells #[.bool false, .int .i64 0] 33) = w1 at *
 have B2 : Below w1.heap.size w1 w1.drew := (Below.refl _ _).drew
 refine region_mid (fun a' W => a' = { tmps := #[Value.agg #[.bool o, .int .i64 n], Value.agg #[.bool p, .int .i64 m], Value.pointer (some ⟨w.heap.size, 0, none⟩), Value.pointer (some ⟨w.heap.size + 1, 0, none⟩), Value.pointer (some ⟨w.heap.size + 2, 0, none⟩), Value.agg #[.bool o, .int .i64 n], Value.agg #[.bool (ov x), .int .i64 (nn x)], Value.agg #[.bool p, .int .i64 m], Value.agg #[.bool (ov y), .int .i64 (nn y)], undef, undef, undef, undef, undef, undef, undef, undef, undef, undef, undef, undef, undef, undef, undef, undef, undef, undef, undef, undef, undef], defers := [] } ∧ Box W w.heap.size (ov x) (nn x) ∧ Box W (w.heap.size + 1) (ov y) (nn y) ∧ Box W (w.heap.size + 2) false 0 ∧ Below w.heap.size w W) ?_ ?_
 ·
  refine wp_region_noPanic ?_
  refine wp_region_held_drew (S := fun _ => True) (by kernel_rfl) ?_ (fun _ => ?_)
  ·
   exact trivial
  refine wpAnyH_ready (rs := [0, 2]) (by kernel_rfl) (by simp) ?_
  refine AllReadyH.cons rfl (fun K hK => ?_) (AllReadyH.cons rfl (fun K hK => ?_) AllReadyH.nil)
  ·
   have c0 := (hx.later B2).c0
   have c1 := (hx.later B2).c1
   go_simp
   refine hK.out _ _ ?_ (fun _ => ?_)
   ·
    exact trivial
   clear hK K
   clear c0 c1
   refine wpAnyH_ready (rs := [1, 2]) (by kernel_rfl) (by simp) ?_
   refine AllReadyH.cons rfl (fun K hK => ?_) (AllReadyH.cons rfl (fun K hK => ?_) AllReadyH.nil)
   ·
    go_simp
    refine (counted_any o n _ hn.1).mono ?_
    rintro e w2 ⟨rfl, hg2⟩
    rw [hX]
    have g2 := Below.chain B2 hg2
    refine hK.out _ _ ?_ (fun _ => ?_)
    ·
     exact trivial
    clear hK K
    refine wpAnyH_ready (rs := [2]) (by kernel_rfl) (by simp) ?_
    refine AllReadyH.cons rfl (fun K hK => ?_) AllReadyH.nil
    have c0 := (hy.later g2).c0
    have c1 := (hy.later g2).c1
    go_simp
    refine hK.out _ _ ?_ (fun _ => ?_)
    ·
     exact trivial
    clear hK K
    clear c0 c1
    refine wpAnyH_ready (rs := [3]) (by kernel_rfl) (by simp) ?_
    refine AllReadyH.cons rfl (fun K hK => ?_) AllReadyH.nil
    go_simp
    refine (counted_any p m _ hm.1).mono ?_
    rintro e w3 ⟨rfl, hg3⟩
    rw [hY]
    have g3 := Below.chain g2 hg3
    refine hK.out _ _ ?_ (fun _ => ?_)
    ·
     exact trivial
    clear hK K
    have hx4 := (hx.later g3).put (p := ov x) (m := nn x)
    have hy4 := (hy.later g3).put_other (a := w.heap.size) (p := ov x) (m := nn x) (by omega)
    have hb4 := put2 (Below.chain hb g3) (b := w.heap.size) (by omega) (ov x) (nn x)
    have hx3 := hx.later g3
    have c0 := hx3.c0
    have c1 := hx3.c1
    have f0 := hx3.f0
    have f1 := hx3.f1
    have hz4 := (hz.later g3).put_other (a := w.heap.size) (p := ov x) (m := nn x) (by omega)
    refine wpAnyH_ready (rs := [4]) (by kernel_rfl) (by simp) ?_
    refine AllReadyH.cons rfl (fun K hK => ?_) AllReadyH.nil
    go_simp
    refine hK.out _ _ ?_ (fun _ => ?_)
    ·
     exact trivial
    clear hK K
    clear c0 c1 f0 f1
    have hx5 := hx4.put_other (a := w.heap.size + 1) (p := ov y) (m := nn y) (by omega)
    have hy5 := hy4.put (p := ov y) (m := nn y)
    have hb5 := put2 hb4 (b := w.heap.size + 1) (by omega) (ov y) (nn y)
    have c0 := hy4.c0
    have c1 := hy4.c1
    have f0 := hy4.f0
    have f1 := hy4.f1
    have hz5 := hz4.put_other (a := w.heap.size + 1) (p := ov y) (m := nn y) (by omega)
    refine wpAnyH_ready (rs := [5]) (by kernel_rfl) (by simp) ?_
    refine AllReadyH.cons rfl (fun K hK => ?_) AllReadyH.nil
    go_simp
    refine hK.out _ _ ?_ (fun _ => ?_)
    ·
     exact trivial
    clear hK K
    clear c0 c1 f0 f1
    refine wpAnyH_done (by kernel_rfl) ?_ _
    refine NoPanic.normal ?_
    exact ⟨rfl, hx5, hy5, hz5, hb5⟩
   ·
    have c0 := (hy.later B2).c0
    have c1 := (hy.later B2).c1
    go_simp
    refine hK.out _ _ ?_ (fun _ => ?_)
    ·
     exact trivial
    clear hK K
    clear c0 c1
    refine wpAnyH_ready (rs := [1]) (by kernel_rfl) (by simp) ?_
    refine AllReadyH.cons rfl (fun K hK => ?_) AllReadyH.nil
    go_simp
    refine (counted_any o n _ hn.1).mono ?_
    rintro e w2 ⟨rfl, hg2⟩
    rw [hX]
    have g2 := Below.chain B2 hg2
    refine hK.out _ _ ?_ (fun _ => ?_)
    ·
     exact trivial
    clear hK K
    refine wpAnyH_ready (rs := [3]) (by kernel_rfl) (by simp) ?_
    refine AllReadyH.cons rfl (fun K hK => ?_) AllReadyH.nil
    go_simp
    refine (counted_any p m _ hm.1).mono ?_
    rintro e w3 ⟨rfl, hg3⟩
    rw [hY]
    have g3 := Below.chain g2 hg3
    refine hK.out _ _ ?_ (fun _ => ?_)
    ·
     exact trivial
    clear hK K
    have hx4 := (hx.later g3).put (p := ov x) (m := nn x)
    have hy4 := (hy.later g3).put_other (a := w.heap.size) (p := ov x) (m := nn x) (by omega)
    have hb4 := put2 (Below.chain hb g3) (b := w.heap.size) (by omega) (ov x) (nn x)
    have hx3 := hx.later g3
    have c0 := hx3.c0
    have c1 := hx3.c1
    have f0 := hx3.f0
    have f1 := hx3.f1
    have hz4 := (hz.later g3).put_other (a := w.heap.size) (p := ov x) (m := nn x) (by omega)
    refine wpAnyH_ready (rs := [4]) (by kernel_rfl) (by simp) ?_
    refine AllReadyH.cons rfl (fun K hK => ?_) AllReadyH.nil
    go_simp
    refine hK.out _ _ ?_ (fun _ => ?_)
    ·
     exact trivial
    clear hK K
    clear c0 c1 f0 f1
    have hx5 := hx4.put_other (a := w.heap.size + 1) (p := ov y) (m := nn y) (by omega)
    have hy5 := hy4.put (p := ov y) (m := nn y)
    have hb5 := put2 hb4 (b := w.heap.size + 1) (by omega) (ov y) (nn y)
    have c0 := hy4.c0
    have c1 := hy4.c1
    have f0 := hy4.f0
    have f1 := hy4.f1
    have hz5 := hz4.put_other (a := w.heap.size + 1) (p := ov y) (m := nn y) (by omega)
    refine wpAnyH_ready (rs := [5]) (by kernel_rfl) (by simp) ?_
    refine AllReadyH.cons rfl (fun K hK => ?_) AllReadyH.nil
    go_simp
    refine hK.out _ _ ?_ (fun _ => ?_)
    ·
     exact trivial
    clear hK K
    clear c0 c1 f0 f1
    refine wpAnyH_done (by kernel_rfl) ?_ _
    refine NoPanic.normal ?_
    exact ⟨rfl, hx5, hy5, hz5, hb5⟩
  ·
   have c0 := (hy.later B2).c0
   have c1 := (hy.later B2).c1
   go_simp
   refine hK.out _ _ ?_ (fun _ => ?_)
   ·
    exact trivial
   clear hK K
   clear c0 c1
   refine wpAnyH_ready (rs := [0]) (by kernel_rfl) (by simp) ?_
   refine AllReadyH.cons rfl (fun K hK => ?_) AllReadyH.nil
   have c0 := (hx.later B2).c0
   have c1 := (hx.later B2).c1
   go_simp
   refine hK.out _ _ ?_ (fun _ => ?_)
   ·
    exact trivial
   clear hK K
   clear c0 c1
   refine wpAnyH_ready (rs := [1]) (by kernel_rfl) (by simp) ?_
   refine AllReadyH.cons rfl (fun K hK => ?_) AllReadyH.nil
   go_simp
   refine (counted_any o n _ hn.1).mono ?_
   rintro e w2 ⟨rfl, hg2⟩
   rw [hX]
   have g2 := Below.chain B2 hg2
   refine hK.out _ _ ?_ (fun _ => ?_)
   ·
    exact trivial
   clear hK K
   refine wpAnyH_ready (rs := [3]) (by kernel_rfl) (by simp) ?_
   refine AllReadyH.cons rfl (fun K hK => ?_) AllReadyH.nil
   go_simp
   refine (counted_any p m _ hm.1).mono ?_
   rintro e w3 ⟨rfl, hg3⟩
   rw [hY]
   have g3 := Below.chain g2 hg3
   refine hK.out _ _ ?_ (fun _ => ?_)
   ·
    exact trivial
   clear hK K
   have hx4 := (hx.later g3).put (p := ov x) (m := nn x)
   have hy4 := (hy.later g3).put_other (a := w.heap.size) (p := ov x) (m := nn x) (by omega)
   have hb4 := put2 (Below.chain hb g3) (b := w.heap.size) (by omega) (ov x) (nn x)
   have hx3 := hx.later g3
   have c0 := hx3.c0
   have c1 := hx3.c1
   have f0 := hx3.f0
   have f1 := hx3.f1
   have hz4 := (hz.later g3).put_other (a := w.heap.size) (p := ov x) (m := nn x) (by omega)
   refine wpAnyH_ready (rs := [4]) (by kernel_rfl) (by simp) ?_
   refine AllReadyH.cons rfl (fun K hK => ?_) AllReadyH.nil
   go_simp
   refine hK.out _ _ ?_ (fun _ => ?_)
   ·
    exact trivial
   clear hK K
   clear c0 c1 f0 f1
   have hx5 := hx4.put_other (a := w.heap.size + 1) (p := ov y) (m := nn y) (by omega)
   have hy5 := hy4.put (p := ov y) (m := nn y)
   have hb5 := put2 hb4 (b := w.heap.size + 1) (by omega) (ov y) (nn y)
   have c0 := hy4.c0
   have c1 := hy4.c1
   have f0 := hy4.f0
   have f1 := hy4.f1
   have hz5 := hz4.put_other (a := w.heap.size + 1) (p := ov y) (m := nn y) (by omega)
   refine wpAnyH_ready (rs := [5]) (by kernel_rfl) (by simp) ?_
   refine AllReadyH.cons rfl (fun K hK => ?_) AllReadyH.nil
   go_simp
   refine hK.out _ _ ?_ (fun _ => ?_)
   ·
    exact trivial
   clear hK K
   clear c0 c1 f0 f1
   refine wpAnyH_done (by kernel_rfl) ?_ _
   refine NoPanic.normal ?_
   exact ⟨rfl, hx5, hy5, hz5, hb5⟩
 ·
  clear hx hy hz hb B2
  rintro _ W1 ⟨rfl, hx, hy, hz, hb⟩
  cases x with
  | none =>
   obtain ⟨c0, c1, f0, f1⟩ := hx
   go_wp2_with fail
   refine (overflow_any _).mono ?_
   rintro e w6 ⟨rfl, hb6⟩
   have hz6 := hz.later hb6
   obtain ⟨d0, d1, g0, g1⟩ := hz6
   go_wp2
   exact bodyPost_ret (v := .agg #[.bool true, .int .i64 0]) (by simp [results, Tryz.results22, go_sem, d0, d1]) rfl ⟨by cases y <;> rfl, put2 (Below.chain hb hb6) (by omega) _ _⟩
  | some a =>
   cases y with
   | none =>
    obtain ⟨c0, c1, f0, f1⟩ := hx
    obtain ⟨e0, e1, _, _⟩ := hy
    go_wp2_with fail
    refine (overflow_any _).mono ?_
    rintro e w6 ⟨rfl, hb6⟩
    have hz6 := hz.later hb6
    obtain ⟨d0, d1, g0, g1⟩ := hz6
    go_wp2
    exact bodyPost_ret (v := .agg #[.bool true, .int .i64 0]) (by simp [results, Tryz.results22, go_sem, d0, d1]) rfl ⟨rfl, put2 (Below.chain hb hb6) (by omega) _ _⟩
   | some b =>
    have ha : R64 a := ⟨by have := hVx.1; simp only [nn] at this; omega, hVx.2⟩
    have hb' : R64 b := ⟨by have := hVy.1; simp only [nn] at this; omega, hVy.2⟩
    have hs := fun W => scaled_any (decide (a < 0) != decide (b < 0)) a.natAbs 1000000 b.natAbs W (abs_lt ha) (by omega) (abs_lt hb')
    rw [scale_div] at hs
    simp only [nn, ov] at hx hy ⊢
    have hlx := hx.lt
    have hly := hy.lt
    have k0 := hx.c0
    have k1 := hy.c0
    go_wp2_with fail
    have m0 : ∀ W, Below (w.heap.size + 2) W1 W → W.cell? ⟨w.heap.size, 1, none⟩ = some (.int .i64 a) := fun W h => (h.cell (p := ⟨w.heap.size, 1, none⟩) (by simp)).trans hx.c1
    have m1 : ∀ W, Below (w.heap.size + 2) W1 W → W.cell? ⟨w.heap.size + 1, 1, none⟩ = some (.int .i64 b) := fun W h => (h.cell (p := ⟨w.heap.size + 1, 1, none⟩) (by simp)).trans hy.c1
    have B2 : Below (w.heap.size + 2) W1 W1.drew := (Below.refl _ _).drew
    clear k0 k1
    refine wp_region_noPanic ?_
    refine wp_region_held_drew (S := fun W => Below (w.heap.size + 2) W1 W) (by kernel_rfl) ?_ (fun _ => ?_)
    ·
     exact B2
    refine take_at 0 (some 16) (.pointer (some ⟨w.heap.size, 1, none⟩)) rfl rfl (by kernel_rfl) (by kernel_rfl) (by kernel_rfl) (fun _ _ _ h => h) (by rfl) (fun W hSw => by go_simp) B2 ?_
    simp only [Act.put, List.setIfInBounds_toArray, List.set_cons_zero, List.set_cons_succ]
    refine take_at 1 (some 17) (.int .i64 a) rfl rfl (by kernel_rfl) (by kernel_rfl) (by kernel_rfl) (fun _ _ _ h => h) (by rfl) (fun W hSw => by go_simp) B2 ?_
    simp only [Act.put, List.setIfInBounds_toArray, List.set_cons_zero, List.set_cons_succ]
    refine take_at 2 (some 18) (.bool (decide (a < 0))) rfl rfl (by kernel_rfl) (by kernel_rfl) (by kernel_rfl) (fun _ _ _ h => h) (by rfl) (fun W hSw => by go_simp) B2 ?_
    simp only [Act.put, List.setIfInBounds_toArray, List.set_cons_zero, List.set_cons_succ]
    refine take_at 3 (some 19) (.pointer (some ⟨w.heap.size + 1, 1, none⟩)) rfl rfl (by kernel_rfl) (by kernel_rfl) (by kernel_rfl) (fun _ _ _ h => h) (by rfl) (fun W hSw => by go_simp) B2 ?_
    simp only [Act.put, List.setIfInBounds_toArray, List.set_cons_zero, List.set_cons_succ]
    refine take_at 4 (some 20) (.int .i64 b) rfl rfl (by kernel_rfl) (by kernel_rfl) (by kernel_rfl) (fun _ _ _ h => h) (by rfl) (fun W hSw => by go_simp) B2 ?_
    simp only [Act.put, List.setIfInBounds_toArray, List.set_cons_zero, List.set_cons_succ]
    refine take_at 5 (some 21) (.bool (decide (b < 0))) rfl rfl (by kernel_rfl) (by kernel_rfl) (by kernel_rfl) (fun _ _ _ h => h) (by rfl) (fun W hSw => by go_simp) B2 ?_
    simp only [Act.put, List.setIfInBounds_toArray, List.set_cons_zero, List.set_cons_succ]
    refine take_at 6 (some 22) (.bool (decide (a < 0) != decide (b < 0))) rfl rfl (by kernel_rfl) (by kernel_rfl) (by kernel_rfl) (fun _ _ _ h => h) (by rfl) (fun W hSw => by go_simp; cases decide (a < 0) <;> cases decide (b < 0) <;> rfl) B2 ?_
    simp only [Act.put, List.setIfInBounds_toArray, List.set_cons_zero, List.set_cons_succ]
    refine take_at 7 (some 23) (.pointer (some ⟨w.heap.size, 1, none⟩)) rfl rfl (by kernel_rfl) (by kernel_rfl) (by kernel_rfl) (fun _ _ _ h => h) (by rfl) (fun W hSw => by go_simp) B2 ?_
    simp only [Act.put, List.setIfInBounds_toArray, List.set_cons_zero, List.set_cons_succ]
    refine take_at 8 (some 24) (.int .i64 a) rfl rfl (by kernel_rfl) (by kernel_rfl) (by kernel_rfl) (fun _ _ _ h => h) (by rfl) (fun W hSw => by go_simp) B2 ?_
    simp only [Act.put, List.setIfInBounds_toArray, List.set_cons_zero, List.set_cons_succ]
    refine take_at 10 (some 26) (.pointer (some ⟨w.heap.size + 1, 1, none⟩)) rfl rfl (by kernel_rfl) (by kernel_rfl) (by kernel_rfl) (fun _ _ _ h => h) (by rfl) (fun W hSw => by go_simp) B2 ?_
    simp only [Act.put, List.setIfInBounds_toArray, List.set_cons_zero, List.set_cons_succ]
    refine take_at 11 (some 27) (.int .i64 b) rfl rfl (by kernel_rfl) (by kernel_rfl) (by kernel_rfl) (fun _ _ _ h => h) (by rfl) (fun W hSw => by go_simp) B2 ?_
    simp only [Act.put, List.setIfInBounds_toArray, List.set_cons_zero, List.set_cons_succ]
    refine wpAnyH_ready (rs := [9]) (by kernel_rfl) (by simp) ?_
    refine AllReadyH.cons rfl (fun K hK => ?_) AllReadyH.nil
    go_simp
    refine (mag_any _ _ ha.1 ha.2).mono ?_
    rintro e w5 ⟨rfl, rfl⟩
    refine hK.out _ _ ?_ (fun _ => ?_)
    ·
     exact B2
    clear hK K
    refine wpAnyH_ready (rs := [12]) (by kernel_rfl) (by simp) ?_
    refine AllReadyH.cons rfl (fun K hK => ?_) AllReadyH.nil
    go_simp
    refine (mag_any _ _ hb'.1 hb'.2).mono ?_
    rintro e w5 ⟨rfl, rfl⟩
    refine hK.out _ _ ?_ (fun _ => ?_)
    ·
     exact B2
    clear hK K
    refine wpAnyH_ready (rs := [13]) (by kernel_rfl) (by simp) ?_
    refine AllReadyH.cons rfl (fun K hK => ?_) AllReadyH.nil
    go_simp
    refine (hs _).mono ?_
    rintro e w6 ⟨rfl, hb6⟩
    have B3 : Below (w.heap.size + 2) W1 w6 := B2.trans (hb6.mono (by have := hz.lt; simp; omega))
    refine hK.out _ _ ?_ (fun _ => ?_)
    ·
     exact B3
    clear hK K
    have hz6 := hz.later (Below.chain (Below.refl _ W1).drew hb6)
    have c0 := hz6.c0
    have c1 := hz6.c1
    have f0 := hz6.f0
    have f1 := hz6.f1
    refine wpAnyH_ready (rs := [14]) (by kernel_rfl) (by simp) ?_
    refine AllReadyH.cons rfl (fun K hK => ?_) AllReadyH.nil
    go_simp
    refine hK.out _ _ ?_ (fun _ => ?_)
    ·
     exact put2 B3 (by omega) _ _
    clear hK K
    refine wpAnyH_done (by kernel_rfl) ?_ _
    refine NoPanic.normal ?_
    go_wp2
    exact bodyPost_ret (v := .agg #[.bool (ov (fDiv (some a) (some b))), .int .i64 (nn (fDiv (some a) (some b)))]) (by simp [results, Tryz.results22, go_sem, c0, c1]) rfl ⟨rfl, put2 (hb.trans (B3.mono (by omega))) (by omega) _ _⟩
end Go.Proofs.YtjgckfcocmhnhaaGreatDoor
namespace Go.Proofs.YtjgckfcocmhnhaaGreatDoor
open Go.RowKit
theorem ex_cnt (n : Int) (h : -9223372036854775807 ≤ n) : cnt false n = some n := by
 unfold cnt
 rw [if_neg (by intro e; rcases e with e | e; cases e; omega)]
end Go.Proofs.YtjgckfcocmhnhaaGreatDoor
namespace Go.Proofs.YtjgckfcocmhnhaaGreatDoor
open Go.RowKit
theorem V.r64 {r : Option Int} (h : V r) : R64 (nn r) := ⟨by have := h.1; omega, h.2⟩
set_option maxHeartbeats 2000000 in
theorem sub_any (o p : Bool) (n m : Int) (w : World) (hn : R64 n) (hm : R64 m) : Calls Tryz.prog 120 #[.agg #[.bool o, .int .i64 n], .agg #[.bool p, .int .i64 m]] w fun e w' => e = .returned (.agg #[.bool (ov (fAdd (cnt o n) (fNeg (cnt p m)))), .int .i64 (nn (fAdd (cnt o n) (fNeg (cnt p m))))]) ∧ Below w.heap.size w w' := by
 have hv : V (fNeg (cnt p m)) := V.neg (V.cnt hm.1 hm.2)
 have hr := V.r64 hv
 obtain ⟨hx, hy, hz, hb⟩ := boxes3 w o p false n m 0
 go_enter Tryz.func120, Tryz.ntmps120
 go_wp2_with fail
 generalize ((w.alloc (.cells #[.bool o, .int .i64 n] 33)).alloc (.cells #[.bool p, .int .i64 m] 33)).alloc (.cells #[.bool false, .int .i64 0] 33) = w1 at *
 have hzl := hz.lt
 have m0 : ∀ W, Below (w.heap.size + 2) w1 W → W.cell? ⟨w.heap.size, 0, none⟩ = some (.bool o) := fun W h => (h.cell (p := ⟨w.heap.size, 0, none⟩) (by simp)).trans hx.c0
 have m1 : ∀ W, Below (w.heap.size + 2) w1 W → W.cell? ⟨w.heap.size, 1, none⟩ = some (.int .i64 n) := fun W h => (h.cell (p := ⟨w.heap.size, 1, none⟩) (by simp)).trans hx.c1
 have m2 : ∀ W, Below (w.heap.size + 2) w1 W → W.cell? ⟨w.heap.size + 1, 0, none⟩ = some (.bool p) := fun W h => (h.cell (p := ⟨w.heap.size + 1, 0, none⟩) (by simp)).trans hy.c0
 have m3 : ∀ W, Below (w.heap.size + 2) w1 W → W.cell? ⟨w.heap.size + 1, 1, none⟩ = some (.int .i64 m) := fun W h => (h.cell (p := ⟨w.heap.size + 1, 1, none⟩) (by simp)).trans hy.c1
 have B2 : Below (w.heap.size + 2) w1 w1.drew := (Below.refl _ _).drew
 refine wp_region_noPanic ?_
 refine wp_region_held_drew (S := fun W => Below (w.heap.size + 2) w1 W) (by kernel_rfl) ?_ (fun _ => ?_)
 ·
  exact B2
 refine take_at 0 (some 5) (.agg #[.bool o, .int .i64 n]) rfl rfl (by kernel_rfl) (by kernel_rfl) (by kernel_rfl) (fun _ _ _ h => h) (by rfl) (fun W hSw => by go_simp) B2 ?_
 simp only [Act.put, List.setIfInBounds_toArray, List.set_cons_zero, List.set_cons_succ]
 refine take_at 1 (some 6) (.agg #[.bool p, .int .i64 m]) rfl rfl (by kernel_rfl) (by kernel_rfl) (by kernel_rfl) (fun _ _ _ h => h) (by rfl) (fun W hSw => by go_simp) B2 ?_
 simp only [Act.put, List.setIfInBounds_toArray, List.set_cons_zero, List.set_cons_succ]
 refine wpAnyH_ready (rs := [2]) (by kernel_rfl) (by simp) ?_
 refine AllReadyH.cons rfl (fun K hK => ?_) AllReadyH.nil
 go_simp
 refine (neg_any _ _ _ hm.1 hm.2).mono ?_
 rintro e w2 ⟨rfl, hb2⟩
 have C2 := Below.chain (Below.refl _ w1).drew hb2
 have B3 : Below (w.heap.size + 2) w1 w2 := C2.mono (by omega)
 refine hK.out _ _ ?_ (fun _ => ?_)
 ·
  exact B3
 clear hK K
 have C3 := bal C2 (.cells #[.bool o, .int .i64 n, .bool (ov (fNeg (cnt p m))), .int .i64 (nn (fNeg (cnt p m)))] 33)
 refine wpAnyH_ready (rs := [3]) (by kernel_rfl) (by simp) ?_
 refine AllReadyH.cons rfl (fun K hK => ?_) AllReadyH.nil
 go_simp
 refine hK.out _ _ ?_ (fun _ => ?_)
 ·
  exact C3.mono (by omega)
 clear hK K
 refine wpAnyH_ready (rs := [4]) (by kernel_rfl) (by simp) ?_
 refine AllReadyH.cons rfl (fun K hK => ?_) AllReadyH.nil
 go_simp
 refine (sum_two _ _ _ _ _ _ hn hr (by simp)).mono ?_
 rintro e w3 ⟨rfl, hb3⟩
 rw [cnt_val hv]
 have C4 := Below.chain C2 hb3
 have B4 : Below (w.heap.size + 2) w1 w3 := C4.mono (by omega)
 refine hK.out _ _ ?_ (fun _ => ?_)
 ·
  exact B4
 clear hK K
 have hz6 := hz.later C4
 have c0 := hz6.c0
 have c1 := hz6.c1
 have f0 := hz6.f0
 have f1 := hz6.f1
 refine wpAnyH_ready (rs := [5]) (by kernel_rfl) (by simp) ?_
 refine AllReadyH.cons rfl (fun K hK => ?_) AllReadyH.nil
 go_simp
 refine hK.out _ _ ?_ (fun _ => ?_)
 ·
  exact put2 B4 (by omega) _ _
 clear hK K
 refine wpAnyH_done (by kernel_rfl) ?_ _
 refine NoPanic.normal ?_
 go_wp2
 exact bodyPost_ret (v := .agg #[.bool (ov (fAdd (cnt o n) (fNeg (cnt p m)))), .int .i64 (nn (fAdd (cnt o n) (fNeg (cnt p m))))]) (by simp [results, Tryz.results120, go_sem, c0, c1]) rfl ⟨rfl, put2 (Below.chain hb C4) (by omega) _ _⟩
end Go.Proofs.YtjgckfcocmhnhaaGreatDoor
namespace Go.Proofs.YtjgckfcocmhnhaaGreatDoor
open Go.RowKit
theorem Box.kept {w w' : World} {b : Nat} {o : Bool} {n : Int} (h : Box w b o n) {row : Option Nat} (hg : w.grownBy w' row) (hne : some b ≠ row) : Box w' b o n :=
 ⟨hg.cell h.c0 hne, hg.cell h.c1 hne, (World.frozen?_of_block (a := ⟨b, 0, none⟩) (hg.block b h.lt hne)).trans h.f0, (World.frozen?_of_block (a := ⟨b, 1, none⟩) (hg.block b h.lt hne)).trans h.f1⟩
end Go.Proofs.YtjgckfcocmhnhaaGreatDoor
