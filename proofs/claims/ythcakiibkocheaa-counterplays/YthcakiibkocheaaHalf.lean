/- Long division, a digit of 32 bits at a time: nothing of the program. -/
import Derived.Lib.BitFns
namespace Go.Proofs.Ythcakiibkocheaa

theorem half_mul (q y1 y0 : Nat) : q * (y1 * 4294967296 + y0) = q * y1 * 4294967296 + q * y0 := by rw [Nat.mul_add, ← Nat.mul_assoc]
/-- The digit is not too large. -/
theorem half_le {u d y1 y0 q r : Nat} (hq : q * y1 + r = u) (h : q * y0 ≤ 4294967296 * r + d) : q * (y1 * 4294967296 + y0) ≤ u * 4294967296 + d := by
  rw [half_mul, ← hq]
  generalize q * y1 = A at *
  generalize q * y0 = C at *
  omega
/-- The digit is too large. -/
theorem half_gt {u d y1 y0 q r : Nat} (hq : q * y1 + r = u) (h : 4294967296 * r + d < q * y0) : u * 4294967296 + d < q * (y1 * 4294967296 + y0) := by
  rw [half_mul, ← hq]
  generalize q * y1 = A at *
  generalize q * y0 = C at *
  omega
theorem half_first {u y1 y0 : Nat} (h1 : 2147483648 ≤ y1) (h0 : y0 < 4294967296) (hu : u < y1 * 4294967296 + y0) : u / y1 ≤ 4294967297 := by
  have : u < 4294967298 * y1 := by omega
  have := (Nat.div_lt_iff_lt_mul (by omega : 0 < y1)).2 this
  omega
theorem half_digit {u d y : Nat} (hd : d < 4294967296) (hu : u < y) : (u * 4294967296 + d) / y < 4294967296 := by
  rw [Nat.div_lt_iff_lt_mul (by omega)]
  omega
/-- What holds at the head of the loop. -/
def HalfInv (u d y1 y0 q r : Nat) : Prop := q * y1 + r = u ∧ (u * 4294967296 + d) / (y1 * 4294967296 + y0) ≤ q ∧ r < 4294967296 ∧ q ≤ 4294967297
theorem HalfInv.start {u d y1 y0 : Nat} (h1 : 2147483648 ≤ y1) (hy : y1 < 4294967296) (h0 : y0 < 4294967296) (hd : d < 4294967296) (hu : u < y1 * 4294967296 + y0) : HalfInv u d y1 y0 (u / y1) (u - u / y1 * y1) := by
  have e := Nat.div_add_mod u y1
  have m := Nat.mod_lt u (by omega : 0 < y1)
  have c := Nat.mul_comm y1 (u / y1)
  refine ⟨by omega, ?_, by omega, half_first h1 h0 hu⟩
  have : u * 4294967296 + d < (u / y1 + 1) * (y1 * 4294967296 + y0) := by
    rw [half_mul, Nat.add_mul, Nat.one_mul]
    generalize (u / y1 + 1) * y0 = Z
    omega
  have := (Nat.div_lt_iff_lt_mul (by omega : 0 < y1 * 4294967296 + y0)).2 this
  omega
theorem HalfInv.stop {u d y1 y0 q r : Nat} (h : HalfInv u d y1 y0 q r) (hy : 0 < y1) (hc : q * y0 ≤ 4294967296 * r + d) : q = (u * 4294967296 + d) / (y1 * 4294967296 + y0) := by
  obtain ⟨a, b, _, _⟩ := h
  have := half_le a hc
  have := (Nat.le_div_iff_mul_le (by omega : 0 < y1 * 4294967296 + y0)).2 this
  omega
/-- What holds behind a step down. -/
theorem HalfInv.down {u d y1 y0 q r : Nat} (h : HalfInv u d y1 y0 q r) (hd : d < 4294967296) (hu : u < y1 * 4294967296 + y0) (hc : 4294967296 ≤ q ∨ 4294967296 * r + d < q * y0) : 1 ≤ q ∧ (q - 1) * y1 + (r + y1) = u ∧ (u * 4294967296 + d) / (y1 * 4294967296 + y0) ≤ q - 1 ∧ q - 1 ≤ 4294967296 := by
  obtain ⟨a, b, _, e⟩ := h
  have hq : (u * 4294967296 + d) / (y1 * 4294967296 + y0) < q := by
    rcases hc with hc | hc
    · have := half_digit (y := y1 * 4294967296 + y0) hd hu
      omega
    · exact (Nat.div_lt_iff_lt_mul (by omega : 0 < y1 * 4294967296 + y0)).2 (half_gt a hc)
  generalize (u * 4294967296 + d) / (y1 * 4294967296 + y0) = T at *
  refine ⟨by omega, ?_, by omega, by omega⟩
  have : q * y1 = (q - 1) * y1 + y1 := by
    have : q = (q - 1) + 1 := by omega
    rw [this, Nat.add_mul, Nat.one_mul]
    simp
  omega
theorem HalfInv.broke {u d y1 y0 q r : Nat} (hy : 0 < y1) (h0 : y0 < 4294967296) (a : q * y1 + r = u) (b : (u * 4294967296 + d) / (y1 * 4294967296 + y0) ≤ q) (e : q ≤ 4294967296) (hr : 4294967296 ≤ r) : q = (u * 4294967296 + d) / (y1 * 4294967296 + y0) := by
  have hz : q * y0 ≤ 4294967296 * r + d := by
    have : q * y0 ≤ 4294967296 * 4294967296 := Nat.mul_le_mul e (by omega)
    omega
  have := half_le a hz
  have := (Nat.le_div_iff_mul_le (by omega : 0 < y1 * 4294967296 + y0)).2 this
  omega

/-- The remainder of a step. -/
theorem rest_lt (N y : Nat) (h : 0 < y) : N - N / y * y < y := by
  have := Nat.mod_lt N h
  have e := Nat.div_add_mod N y
  rw [Nat.mul_comm] at e
  omega
/-- Two steps are one. -/
theorem two_steps (K u d1 d0 y : Nat) (hy : 0 < y) (q1 q0 r : Nat) (h1 : q1 = (u * K + d1) / y) (hr : r = u * K + d1 - q1 * y) (h0 : q0 = (r * K + d0) / y) : q1 * K + q0 = (u * (K * K) + d1 * K + d0) / y := by
  have e : u * K + d1 = y * q1 + r := by
    have := Nat.div_mul_le_self (u * K + d1) y
    rw [← h1] at this
    rw [Nat.mul_comm y q1]
    omega
  have e2 : u * (K * K) + d1 * K + d0 = (r * K + d0) + y * (q1 * K) := by
    have e3 : (u * K + d1) * K = (y * q1 + r) * K := by rw [e]
    rw [Nat.add_mul, Nat.add_mul, Nat.mul_assoc, Nat.mul_assoc] at e3
    omega
  rw [e2, Nat.add_mul_div_left _ _ hy, ← h0]
  omega

/-- The divisor, shifted to the top. -/
theorem bitLen_bounds : ∀ (f x : Nat), x < 2 ^ f → x ≠ 0 → 2 ^ (Go.Lib.bitLenAux f x - 1) ≤ x ∧ x < 2 ^ Go.Lib.bitLenAux f x ∧ 1 ≤ Go.Lib.bitLenAux f x ∧ Go.Lib.bitLenAux f x ≤ f
  | 0, x, h, h0 => by simp at h; omega
  | f + 1, x, h, h0 => by
    rw [Go.Lib.bitLenAux, if_neg h0]
    by_cases hx : x / 2 = 0
    · have : x = 1 := by omega
      subst this
      have z : Go.Lib.bitLenAux f (1 / 2) = 0 := by cases f <;> simp [Go.Lib.bitLenAux]
      rw [z]
      simp
    · have := bitLen_bounds f (x / 2) (by rw [Nat.pow_succ] at h; omega) hx
      obtain ⟨a, b, c, d⟩ := this
      generalize Go.Lib.bitLenAux f (x / 2) = k at *
      obtain ⟨j, rfl⟩ : ∃ j, k = j + 1 := ⟨k - 1, by omega⟩
      have e1 : 1 + (j + 1) - 1 = j + 1 := by omega
      have e2 : j + 1 - 1 = j := by omega
      rw [e1]
      rw [e2] at a
      have e3 : 1 + (j + 1) = j + 1 + 1 := by omega
      rw [e3]
      have p1 : 2 ^ (j + 1) = 2 ^ j * 2 := Nat.pow_succ 2 j
      have p2 : 2 ^ (j + 1 + 1) = 2 ^ (j + 1) * 2 := Nat.pow_succ 2 (j + 1)
      refine ⟨by omega, by omega, by omega, by omega⟩
theorem top_shift {y : Nat} (h0 : y ≠ 0) (h1 : y < 18446744073709551616) : ∃ s, 64 - (Go.Lib.bitLen y : Int) = (s : Nat) ∧ s < 64 ∧ 9223372036854775808 ≤ y * 2 ^ s ∧ y * 2 ^ s < 18446744073709551616 := by
  obtain ⟨a, b, c, d⟩ := bitLen_bounds 64 y h1 h0
  have e : Go.Lib.bitLen y = Go.Lib.bitLenAux 64 y := rfl
  rw [e]
  generalize Go.Lib.bitLenAux 64 y = k at *
  refine ⟨64 - k, by omega, by omega, ?_, ?_⟩
  · have : 2 ^ (k - 1) * 2 ^ (64 - k) = 9223372036854775808 := by
      rw [← Nat.pow_add]
      have : k - 1 + (64 - k) = 63 := by omega
      rw [this]
    rw [← this]
    exact Nat.mul_le_mul_right _ a
  · have : 2 ^ k * 2 ^ (64 - k) = 18446744073709551616 := by
      rw [← Nat.pow_add]
      have : k + (64 - k) = 64 := by omega
      rw [this]
    rw [← this]
    exact (Nat.mul_lt_mul_right (Nat.pos_of_ne_zero (by simp))).2 b
end Go.Proofs.Ythcakiibkocheaa
