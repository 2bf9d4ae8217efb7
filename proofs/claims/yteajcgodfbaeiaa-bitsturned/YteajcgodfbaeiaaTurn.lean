/- Plain facts: bytes of a row turned one after another. -/
import Derived.Test.YteajcgodfbaeiaaCrc
namespace Go.Proofs.Yteajcgodfbaeiaa

/-- The byte at j turned by d. -/
def set1 (l : List UInt8) (j : Nat) (d : UInt8) : List UInt8 := l.set j (l.getD j 0 ^^^ d)
/-- The first so many of the bytes from k on turned, each by its own. -/
def turnTo (l : List UInt8) (k : Nat) (ds : List UInt8) : Nat → List UInt8
  | 0 => l
  | j + 1 => set1 (turnTo l k ds j) (k + j) (ds.getD j 0)
theorem set1_length (l : List UInt8) (j : Nat) (d : UInt8) : (set1 l j d).length = l.length := by simp [set1]
theorem turnTo_length (l : List UInt8) (k : Nat) (ds : List UInt8) : ∀ j, (turnTo l k ds j).length = l.length
  | 0 => rfl
  | j + 1 => by rw [turnTo, set1_length, turnTo_length l k ds j]
theorem set1_at (p r : List UInt8) (x d : UInt8) (j : Nat) (hj : p.length = j) : set1 (p ++ x :: r) j d = p ++ (x ^^^ d) :: r := by
  subst hj
  simp [set1]
theorem split4 (l : List UInt8) (k : Nat) (h : k + 4 ≤ l.length) : ∃ p b0 b1 b2 b3 q, l = p ++ b0 :: b1 :: b2 :: b3 :: q ∧ p.length = k := by
  refine ⟨l.take k, l[k], l[k + 1], l[k + 2], l[k + 3], l.drop (k + 4), ?_, by simp; omega⟩
  conv => lhs; rw [← List.take_append_drop k l]
  congr 1
  rw [List.drop_eq_getElem_cons (by omega), List.drop_eq_getElem_cons (by omega), List.drop_eq_getElem_cons (by omega), List.drop_eq_getElem_cons (by omega)]
theorem turned4 (p q : List UInt8) (b0 b1 b2 b3 d0 d1 d2 d3 : UInt8) :
    turnTo (p ++ b0 :: b1 :: b2 :: b3 :: q) p.length [d0, d1, d2, d3] 4 = p ++ (b0 ^^^ d0) :: (b1 ^^^ d1) :: (b2 ^^^ d2) :: (b3 ^^^ d3) :: q := by
  have e0 : turnTo (p ++ b0 :: b1 :: b2 :: b3 :: q) p.length [d0, d1, d2, d3] 1 = p ++ (b0 ^^^ d0) :: b1 :: b2 :: b3 :: q := set1_at p _ b0 d0 _ rfl
  have e1 : turnTo (p ++ b0 :: b1 :: b2 :: b3 :: q) p.length [d0, d1, d2, d3] 2 = p ++ (b0 ^^^ d0) :: (b1 ^^^ d1) :: b2 :: b3 :: q := by
    rw [turnTo, e0]
    have := set1_at (p ++ [b0 ^^^ d0]) (b2 :: b3 :: q) b1 d1 (p.length + 1) (by simp)
    simpa using this
  have e2 : turnTo (p ++ b0 :: b1 :: b2 :: b3 :: q) p.length [d0, d1, d2, d3] 3 = p ++ (b0 ^^^ d0) :: (b1 ^^^ d1) :: (b2 ^^^ d2) :: b3 :: q := by
    rw [turnTo, e1]
    have := set1_at (p ++ [b0 ^^^ d0, b1 ^^^ d1]) (b3 :: q) b2 d2 (p.length + 2) (by simp)
    simpa using this
  rw [turnTo, e2]
  have := set1_at (p ++ [b0 ^^^ d0, b1 ^^^ d1, b2 ^^^ d2]) q b3 d3 (p.length + 3) (by simp)
  simpa using this
theorem flip_inj {x y : Nat} (h : flip x = flip y) : x = y := by
  unfold flip at h
  rw [Nat.xor_comm _ x, Nat.xor_comm _ y] at h
  exact xor_cancel h
theorem told (l : List UInt8) (k : Nat) (h : k + 4 ≤ l.length) (d0 d1 d2 d3 : UInt8) : (crc l = crc (turnTo l k [d0, d1, d2, d3] 4)) ↔ (d0 = 0 ∧ d1 = 0 ∧ d2 = 0 ∧ d3 = 0) := by
  obtain ⟨p, b0, b1, b2, b3, q, rfl, rfl⟩ := split4 l k h
  rw [turned4]
  constructor
  · intro he
    have h1 := flip_inj he
    unfold crcI at h1
    have e : ∀ x0 x1 x2 x3 : UInt8, p ++ x0 :: x1 :: x2 :: x3 :: q = p ++ ([x0, x1, x2, x3] ++ q) := fun _ _ _ _ => by simp
    rw [e, e, crcR_append, crcR_append, crcR_append, crcR_append] at h1
    have hp := crcR_lt p (r := 4294967295) (by decide)
    generalize crcR 4294967295 p = R at *
    exact four b0 b1 b2 b3 d0 d1 d2 d3 (crcR_inj q (crcR_lt _ hp) (crcR_lt _ hp) h1).symm
  · rintro ⟨rfl, rfl, rfl, rfl⟩
    simp
end Go.Proofs.Yteajcgodfbaeiaa
