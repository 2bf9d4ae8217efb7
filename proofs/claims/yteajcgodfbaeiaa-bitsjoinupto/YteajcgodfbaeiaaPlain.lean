/- Plain facts on lists of bytes and numbers: the sum over bytes, a number in bytes; nothing of the program. -/
import Derived.Laws.BitsAllLaws
namespace Go.Proofs.Yteajcgodfbaeiaa

/-- One shift of the sum's register. -/
def sh (x : Nat) : Nat := if x % 2 = 1 then (x / 2) ^^^ 3988292384 else x / 2
def shn : Nat → Nat → Nat
  | 0, x => x
  | n + 1, x => sh (shn n x)
def crcR (r : Nat) : List UInt8 → Nat
  | [] => r
  | c :: l => crcR (shn 8 (r ^^^ c.toNat)) l

theorem sh_lt {x : Nat} (h : x < 4294967296) : sh x < 4294967296 := by
  unfold sh
  split
  · exact Nat.xor_lt_two_pow (n := 32) (by omega) (by omega)
  · omega
theorem shn_lt : ∀ (n : Nat) {x : Nat}, x < 4294967296 → shn n x < 4294967296
  | 0, _, h => h
  | n + 1, _, h => sh_lt (shn_lt n h)
theorem xor_lt {x : Nat} (h : x < 4294967296) (c : UInt8) : x ^^^ c.toNat < 4294967296 := Nat.xor_lt_two_pow (n := 32) h (by have := c.toNat_lt; omega)
theorem crcR_lt : ∀ (l : List UInt8) {r : Nat}, r < 4294967296 → crcR r l < 4294967296
  | [], _, h => h
  | c :: l, _, h => crcR_lt l (shn_lt 8 (xor_lt h c))
theorem crcR_append : ∀ (l m : List UInt8) (r : Nat), crcR r (l ++ m) = crcR (crcR r l) m
  | [], _, _ => rfl
  | _ :: l, m, _ => crcR_append l m _
/-- All bits turned. -/
def flip (r : Nat) : Nat := 4294967295 ^^^ r
/-- The register behind these bytes. -/
def crcI (l : List UInt8) : Nat := crcR 4294967295 l
theorem crcI_lt (l : List UInt8) : crcI l < 4294967296 := crcR_lt l (by decide)
theorem crcI_nil : (4294967295 : Int) = ((crcI [] : Nat) : Int) := by unfold crcI crcR; decide
/-- The sum. -/
def crc (l : List UInt8) : Nat := flip (crcI l)
theorem flip_lt {r : Nat} (h : r < 4294967296) : flip r < 4294967296 := Nat.xor_lt_two_pow (n := 32) (by decide) h
theorem crc_lt (l : List UInt8) : crc l < 4294967296 := flip_lt (crcI_lt l)

theorem take_snoc {l : List UInt8} {k : Nat} (h : k < l.length) : l.take (k + 1) = l.take k ++ [l.getD k 0] := by
  rw [List.take_add_one, List.getElem?_eq_getElem h]
  simp [List.getD, h]
theorem crcI_snoc {l : List UInt8} {k : Nat} (h : k < l.length) : crcI (l.take (k + 1)) = shn 8 (crcI (l.take k) ^^^ (l.getD k 0).toNat) := by
  unfold crcI
  rw [take_snoc h, crcR_append]
  generalize crcR 4294967295 (l.take k) = r
  rfl

/-- The number in bytes, the lowest first. -/
def num : List UInt8 → Nat
  | [] => 0
  | c :: l => c.toNat + 256 * num l
theorem num_lt : ∀ l : List UInt8, num l < 256 ^ l.length
  | [] => by simp [num]
  | c :: l => by
    have h1 := c.toNat_lt
    have h2 := num_lt l
    simp only [num, List.length_cons, Nat.pow_succ]
    omega
theorem num_append : ∀ l m : List UInt8, num (l ++ m) = num l + 256 ^ l.length * num m
  | [], _ => by simp [num]
  | c :: l, m => by
    simp only [List.cons_append, num, num_append l m, List.length_cons, Nat.pow_succ, Nat.mul_add]
    rw [Nat.mul_comm (256 ^ l.length) 256, Nat.mul_assoc]
    omega
theorem num_snoc {l : List UInt8} {k : Nat} (h : k < l.length) : num (l.take (k + 1)) = num (l.take k) + 256 ^ k * (l.getD k 0).toNat := by
  rw [take_snoc h, num_append]
  simp only [num, List.length_take]
  rw [Nat.min_eq_left (by omega), Nat.mul_zero, Nat.add_zero]
theorem num_take_lt (l : List UInt8) (k : Nat) : num (l.take k) < 256 ^ k := by
  have h := num_lt (l.take k)
  exact Nat.lt_of_lt_of_le h (Nat.pow_le_pow_right (by decide) (List.length_take_le _ _))

/-- So many bytes of a number, the lowest first. -/
def low : Nat → Nat → List UInt8
  | _, 0 => []
  | n, k + 1 => UInt8.ofNat n :: low (n / 256) k
theorem low_length : ∀ (k n : Nat), (low n k).length = k
  | 0, _ => rfl
  | k + 1, n => by simp [low, low_length k]
theorem low_get : ∀ (k n j : Nat), j < k → (low n k).getD j 0 = UInt8.ofNat (n / 256 ^ j)
  | 0, _, _, h => by omega
  | k + 1, n, 0, _ => by simp [low]
  | k + 1, n, j + 1, h => by
    have := low_get k (n / 256) j (by omega)
    simp only [low, List.getD_cons_succ, this, Nat.div_div_eq_div_mul, Nat.pow_succ]
    rw [Nat.mul_comm 256]
theorem num_low : ∀ (k n : Nat), num (low n k) = n % 256 ^ k
  | 0, n => by simp [low, num, Nat.mod_one]
  | k + 1, n => by
    have e : (UInt8.ofNat n).toNat = n % 256 := by simp
    rw [low, num, num_low k, e, Nat.pow_succ, Nat.mul_comm (256 ^ k) 256, Nat.mod_mul]

end Go.Proofs.Yteajcgodfbaeiaa
