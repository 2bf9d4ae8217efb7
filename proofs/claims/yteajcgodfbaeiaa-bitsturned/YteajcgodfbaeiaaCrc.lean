/- Plain facts on the sum: one to four bytes beside one another that were turned are told by it. -/
import Derived.Test.YteajcgodfbaeiaaPlain
namespace Go.Proofs.Yteajcgodfbaeiaa

theorem sh_bit (x i : Nat) : (sh x).testBit i = (x.testBit (i + 1) ^^ (x.testBit 0 && (3988292384 : Nat).testBit i)) := by
  unfold sh
  have h0 : x.testBit 0 = decide (x % 2 = 1) := by rw [Nat.testBit_zero]
  by_cases h : x % 2 = 1
  · rw [if_pos h, Nat.testBit_xor, h0]
    simp [h, Nat.testBit_succ]
  · rw [if_neg h, h0]
    simp [h, Nat.testBit_succ]
theorem sh_xor (x y : Nat) : sh (x ^^^ y) = sh x ^^^ sh y := by
  apply Nat.eq_of_testBit_eq
  intro i
  rw [Nat.testBit_xor, sh_bit, sh_bit, sh_bit, Nat.testBit_xor, Nat.testBit_xor]
  cases x.testBit (i + 1) <;> cases y.testBit (i + 1) <;> cases x.testBit 0 <;> cases y.testBit 0 <;> cases (3988292384 : Nat).testBit i <;> rfl
theorem shn_xor : ∀ (n x y : Nat), shn n (x ^^^ y) = shn n x ^^^ shn n y
  | 0, _, _ => rfl
  | n + 1, x, y => by simp only [shn, shn_xor n, sh_xor]
theorem sh_zero {z : Nat} (hz : z < 4294967296) (h : sh z = 0) : z = 0 := by
  have hb : (sh z).testBit 31 = false := by rw [h]; simp
  rw [sh_bit] at hb
  have h1 : z.testBit (31 + 1) = false := Nat.testBit_lt_two_pow (by simpa using hz)
  have h2 : (3988292384 : Nat).testBit 31 = true := by decide
  rw [h1, h2] at hb
  have h0 : z.testBit 0 = decide (z % 2 = 1) := by rw [Nat.testBit_zero]
  have h3 : ¬ z % 2 = 1 := by
    rw [h0] at hb
    simpa using hb
  unfold sh at h
  rw [if_neg h3] at h
  omega
theorem xor_zero {x y : Nat} (h : x ^^^ y = 0) : x = y := by
  apply Nat.eq_of_testBit_eq
  intro i
  have := congrArg (fun n => n.testBit i) h
  simp only [Nat.testBit_xor, Nat.zero_testBit] at this
  revert this
  cases x.testBit i <;> cases y.testBit i <;> simp
theorem sh_inj {x y : Nat} (hx : x < 4294967296) (hy : y < 4294967296) (h : sh x = sh y) : x = y := by
  apply xor_zero
  apply sh_zero (Nat.xor_lt_two_pow (n := 32) hx hy)
  rw [sh_xor, h, Nat.xor_self]
theorem shn_inj : ∀ (n : Nat) {x y : Nat}, x < 4294967296 → y < 4294967296 → shn n x = shn n y → x = y
  | 0, _, _, _, _, h => h
  | n + 1, _, _, hx, hy, h => shn_inj n hx hy (sh_inj (shn_lt n hx) (shn_lt n hy) h)
theorem sh_even (y : Nat) : sh (2 * y) = y := by
  unfold sh
  rw [if_neg (by omega)]
  omega
theorem shn8_mul (y : Nat) : shn 8 (256 * y) = y := by
  have e : 256 * y = 2 * (2 * (2 * (2 * (2 * (2 * (2 * (2 * y))))))) := by omega
  rw [e]
  simp only [shn, sh_even]
theorem xor_cancel {x y c : Nat} (h : x ^^^ c = y ^^^ c) : x = y := by
  have := congrArg (fun n => n ^^^ c) h
  simpa [Nat.xor_assoc] using this
theorem crcR_inj : ∀ (l : List UInt8) {r r' : Nat}, r < 4294967296 → r' < 4294967296 → crcR r l = crcR r' l → r = r'
  | [], _, _, _, _, h => h
  | c :: l, _, _, hr, hr', h => xor_cancel (shn_inj 8 (xor_lt hr c) (xor_lt hr' c) (crcR_inj l (shn_lt 8 (xor_lt hr c)) (shn_lt 8 (xor_lt hr' c)) h))

/-- Eight shifts, under a name. -/
def s8 (x : Nat) : Nat := shn 8 x
theorem s8_xor (x y : Nat) : s8 (x ^^^ y) = s8 x ^^^ s8 y := shn_xor 8 x y
theorem s8_inj {x y : Nat} (hx : x < 4294967296) (hy : y < 4294967296) (h : s8 x = s8 y) : x = y := shn_inj 8 hx hy h
theorem s8_mul (y : Nat) : s8 (256 * y) = y := shn8_mul y
theorem s8_zero : s8 0 = 0 := shn8_mul 0
theorem s8_def (x : Nat) : s8 x = shn 8 x := rfl
theorem crcR_one (r : Nat) (c : UInt8) : crcR r [c] = s8 (r ^^^ c.toNat) := rfl
theorem crcR_cons (r : Nat) (c : UInt8) (l : List UInt8) : crcR r (c :: l) = crcR (s8 (r ^^^ c.toNat)) l := by
  have h := crcR_append [c] l r
  rw [crcR_one, List.singleton_append] at h
  exact h
theorem crcR_nil (r : Nat) : crcR r [] = r := rfl
theorem diff (r e b d : Nat) : s8 ((r ^^^ e) ^^^ (b ^^^ d)) = s8 (r ^^^ b) ^^^ s8 (e ^^^ d) := by
  have h : (r ^^^ e) ^^^ (b ^^^ d) = (r ^^^ b) ^^^ (e ^^^ d) := by
    rw [Nat.xor_assoc, Nat.xor_assoc, ← Nat.xor_assoc e b d, Nat.xor_comm e b, Nat.xor_assoc b e d]
  rw [h, s8_xor]
theorem self_zero {x e : Nat} (h : x ^^^ e = x) : e = 0 := by
  have := congrArg (fun n => x ^^^ n) h
  simpa [← Nat.xor_assoc] using this
theorem xor_16 {a b : Nat} (ha : a < 256) (hb : b < 256) : 256 * a ^^^ b < 65536 := Nat.xor_lt_two_pow (n := 16) (by omega) (by omega)
theorem xor_24 {a b : Nat} (ha : a < 65536) (hb : b < 256) : 256 * a ^^^ b < 16777216 := Nat.xor_lt_two_pow (n := 24) (by omega) (by omega)
theorem back_xor {x y z : Nat} (h : x ^^^ y = z) : x = z ^^^ y := by rw [← h, Nat.xor_assoc, Nat.xor_self, Nat.xor_zero]

theorem four_nat (x0 x1 x2 x3 : Nat) (k0 : x0 < 256) (k1 : x1 < 256) (k2 : x2 < 256) (k3 : x3 < 256) (h : s8 (s8 (s8 (s8 x0 ^^^ x1) ^^^ x2) ^^^ x3) = 0) : x0 = 0 ∧ x1 = 0 ∧ x2 = 0 ∧ x3 = 0 := by
  have lt : ∀ z, z < 4294967296 → s8 z < 4294967296 := fun z hz => shn_lt 8 hz
  have l0 : s8 x0 < 4294967296 := lt _ (by omega)
  have l1 : s8 x0 ^^^ x1 < 4294967296 := Nat.xor_lt_two_pow (n := 32) l0 (by omega)
  have l2 : s8 (s8 x0 ^^^ x1) ^^^ x2 < 4294967296 := Nat.xor_lt_two_pow (n := 32) (lt _ l1) (by omega)
  have l3 : s8 (s8 (s8 x0 ^^^ x1) ^^^ x2) ^^^ x3 < 4294967296 := Nat.xor_lt_two_pow (n := 32) (lt _ l2) (by omega)
  have h3 := s8_inj l3 (by omega) (h.trans s8_zero.symm)
  have h3' := xor_zero h3
  have h2 := s8_inj l2 (show 256 * x3 < 4294967296 by omega) (h3'.trans (s8_mul x3).symm)
  have h2' := back_xor h2
  have m1 := xor_16 k3 k2
  generalize hy1 : 256 * x3 ^^^ x2 = y1 at *
  have h1 := s8_inj l1 (show 256 * y1 < 4294967296 by omega) (h2'.trans (s8_mul y1).symm)
  have h1' := back_xor h1
  have m0 := xor_24 m1 k1
  generalize hy0 : 256 * y1 ^^^ x1 = y0 at *
  have h0 := s8_inj (show x0 < 4294967296 by omega) (show 256 * y0 < 4294967296 by omega) (h1'.trans (s8_mul y0).symm)
  have z0 : y0 = 0 := by omega
  have z1 := xor_zero (hy0.trans z0)
  have z2 : y1 = 0 := by omega
  have z3 := xor_zero (hy1.trans z2)
  exact ⟨by omega, by omega, by omega, by omega⟩

theorem four {r : Nat} (b0 b1 b2 b3 d0 d1 d2 d3 : UInt8) (h : crcR r [b0 ^^^ d0, b1 ^^^ d1, b2 ^^^ d2, b3 ^^^ d3] = crcR r [b0, b1, b2, b3]) : d0 = 0 ∧ d1 = 0 ∧ d2 = 0 ∧ d3 = 0 := by
  have k0 := d0.toNat_lt
  have k1 := d1.toNat_lt
  have k2 := d2.toNat_lt
  have k3 := d3.toNat_lt
  simp only [crcR_cons, crcR_nil, UInt8.toNat_xor] at h
  have e0 := diff r 0 b0.toNat d0.toNat
  rw [Nat.xor_zero, Nat.zero_xor] at e0
  rw [e0, diff, diff, diff] at h
  have := four_nat _ _ _ _ k0 k1 k2 k3 (self_zero h)
  exact ⟨UInt8.toNat_inj.1 this.1, UInt8.toNat_inj.1 this.2.1, UInt8.toNat_inj.1 this.2.2.1, UInt8.toNat_inj.1 this.2.2.2⟩
end Go.Proofs.Yteajcgodfbaeiaa
