/- Laws of patterns in plain words: pieces, stars, patterns without signs. -/
import Derived.Test.YtideieolgjhbiaaGreatDoorGPlain
namespace Go.Proofs.YtideieolgjhbiaaGreatDoor

theorem gm_append (a b s : List UInt8) : gm (a ++ b) s = true ↔ ∃ t u, s = t ++ u ∧ gm a t = true ∧ gm b u = true := by
  induction a generalizing s with
  | nil =>
    rw [List.nil_append]
    constructor
    · intro h; exact ⟨[], s, rfl, rfl, h⟩
    · rintro ⟨t, u, rfl, h1, h2⟩
      rw [gm_nil] at h1
      rw [List.isEmpty_iff.1 h1]; exact h2
  | cons c a ih =>
    by_cases hc : c = 42
    · subst hc
      rw [List.cons_append, gm_star, star_iff]
      constructor
      · rintro ⟨x, y, rfl, h⟩
        obtain ⟨t, u, rfl, h1, h2⟩ := (ih y).1 h
        refine ⟨x ++ t, u, by rw [List.append_assoc], ?_, h2⟩
        rw [gm_star]
        exact (star_iff _ _).2 ⟨x, t, rfl, h1⟩
      · rintro ⟨t, u, rfl, h1, h2⟩
        rw [gm_star] at h1
        obtain ⟨x, y, rfl, h⟩ := (star_iff _ _).1 h1
        exact ⟨x, y ++ u, by rw [List.append_assoc], (ih _).2 ⟨y, u, rfl, h, h2⟩⟩
    · rw [List.cons_append]
      cases s with
      | nil =>
        rw [gm_cons_nil hc]
        constructor
        · intro h; cases h
        · rintro ⟨t, u, h, h1, _⟩
          rw [(List.append_eq_nil_iff.1 h.symm).1, gm_cons_nil hc] at h1; cases h1
      | cons d s =>
        rw [gm_cons hc, Bool.and_eq_true, ih]
        constructor
        · rintro ⟨h0, t, u, rfl, h1, h2⟩
          exact ⟨d :: t, u, rfl, by rw [gm_cons hc, h0, h1]; rfl, h2⟩
        · rintro ⟨t, u, h, h1, h2⟩
          cases t with
          | nil => rw [gm_cons_nil hc] at h1; cases h1
          | cons e t =>
            rw [List.cons_append] at h
            injection h with e1 e2
            subst e1
            rw [gm_cons hc, Bool.and_eq_true] at h1
            exact ⟨h1.1, t, u, e2, h1.2, h2⟩
theorem star_star (f : List UInt8 → Bool) (s : List UInt8) : star (star f) s = star f s := by
  rw [Bool.eq_iff_iff]
  constructor
  · intro h
    obtain ⟨a, b, rfl, k⟩ := (star_iff _ _).1 h
    exact star_up a k
  · exact star_here
/-- Without signs. -/
def free (p : List UInt8) : Prop := ∀ c ∈ p, c ≠ 42 ∧ c ≠ 63
theorem gm_plain {p : List UInt8} (h : free p) (s : List UInt8) : gm p s = (p == s) := by
  induction p generalizing s with
  | nil => rw [gm_nil]; cases s <;> rfl
  | cons c p ih =>
    have hc := h c (by simp)
    have ih := ih (fun x hx => h x (by simp [hx]))
    cases s with
    | nil => rw [gm_cons_nil hc.1]; rfl
    | cons d s =>
      have e : (c == 63) = false := by simp [hc.2]
      rw [gm_cons hc.1, ih, e, Bool.false_or]
      rfl
def stars (n : Nat) : List UInt8 := List.replicate n 42
theorem stars_succ (n : Nat) : stars (n + 1) = stars n ++ [42] := List.replicate_succ'
theorem gm_stars (n : Nat) (r s : List UInt8) : gm (stars (n + 1) ++ r) s = star (gm r) s := by
  induction n generalizing s with
  | zero => exact gm_star r s
  | succ n ih =>
    have e : stars (n + 1 + 1) ++ r = 42 :: (stars (n + 1) ++ r) := rfl
    have e2 : gm (stars (n + 1) ++ r) = star (gm r) := funext ih
    rw [e, gm_star, e2, star_star]
theorem star_true (s : List UInt8) : star (gm []) s = true := (star_iff _ _).2 ⟨s, [], by simp, rfl⟩
theorem gm_all (n : Nat) (s : List UInt8) : gm (stars (n + 1)) s = true := by
  have := gm_stars n [] s
  rw [List.append_nil] at this
  rw [this]; exact star_true s
/-- Begins so. -/
def begins (p s : List UInt8) : Bool := decide (p.length ≤ s.length) && (s.take p.length == p)
def endsB (p s : List UInt8) : Bool := decide (p.length ≤ s.length) && (s.drop (s.length - p.length) == p)
theorem begins_iff (p s : List UInt8) : begins p s = true ↔ ∃ u, s = p ++ u := by
  unfold begins
  rw [Bool.and_eq_true, decide_eq_true_eq, beq_iff_eq]
  constructor
  · rintro ⟨_, h⟩; exact ⟨s.drop p.length, by conv => lhs; rw [← List.take_append_drop p.length s, h]⟩
  · rintro ⟨u, rfl⟩; simp
theorem endsB_iff (p s : List UInt8) : endsB p s = true ↔ ∃ u, s = u ++ p := by
  unfold endsB
  rw [Bool.and_eq_true, decide_eq_true_eq, beq_iff_eq]
  constructor
  · rintro ⟨_, h⟩; exact ⟨s.take (s.length - p.length), by conv => lhs; rw [← List.take_append_drop (s.length - p.length) s, h]⟩
  · rintro ⟨u, rfl⟩; simp
theorem gm_begins {p : List UInt8} (h : free p) (n : Nat) (s : List UInt8) : gm (p ++ stars (n + 1)) s = begins p s := by
  rw [Bool.eq_iff_iff, gm_append, begins_iff]
  constructor
  · rintro ⟨t, u, rfl, h1, _⟩
    rw [gm_plain h, beq_iff_eq] at h1
    exact ⟨u, by rw [h1]⟩
  · rintro ⟨u, rfl⟩
    exact ⟨p, u, rfl, by rw [gm_plain h]; simp, gm_all n u⟩
theorem gm_endsB {p : List UInt8} (h : free p) (n : Nat) (s : List UInt8) : gm (stars (n + 1) ++ p) s = endsB p s := by
  rw [Bool.eq_iff_iff, gm_stars, star_iff, endsB_iff]
  constructor
  · rintro ⟨t, u, rfl, h1⟩
    rw [gm_plain h, beq_iff_eq] at h1
    exact ⟨t, by rw [h1]⟩
  · rintro ⟨u, rfl⟩
    exact ⟨u, p, rfl, by rw [gm_plain h]; simp⟩
def marks (n : Nat) : List UInt8 := List.replicate n 63
theorem marks_succ (n : Nat) : marks (n + 1) = marks n ++ [63] := List.replicate_succ'
theorem gm_marks (n : Nat) (s : List UInt8) : gm (marks n) s = decide (s.length = n) := by
  induction n generalizing s with
  | zero => rw [show marks 0 = [] from rfl, gm_nil]; cases s <;> simp
  | succ n ih =>
    rw [show marks (n + 1) = 63 :: marks n from rfl]
    cases s with
    | nil => rw [gm_cons_nil (by decide)]; simp
    | cons d s => rw [gm_cons (by decide), ih]; simp
theorem gm_marks_yes (s : List UInt8) : gm (marks s.length) s = true := by rw [gm_marks]; simp
theorem gm_marks_no (s : List UInt8) : gm (marks s.length ++ [63]) s = false := by rw [← marks_succ, gm_marks]; simp

/-! ### Two pieces -/
/-- Does the cut at i part the text so that both pieces match? -/
def cutAt (a b s : List UInt8) (i : Nat) : Bool := gm a (s.take i) && gm b (s.drop i)
def cutTo (a b s : List UInt8) (i k : Nat) : Bool := gm a (s.take i) && gm b (s.drop k)
/-- some cut among the first n. -/
def oneUp (a b s : List UInt8) (n : Nat) : Bool := (List.range n).any (cutAt a b s)
theorem oneUp_succ (a b s : List UInt8) (n : Nat) : oneUp a b s (n + 1) = (oneUp a b s n || cutAt a b s n) := by
  unfold oneUp; rw [List.range_succ, List.any_append]; simp
theorem oneUp_all (a b s : List UInt8) : oneUp a b s (s.length + 1) = gm (a ++ b) s := by
  rw [Bool.eq_iff_iff, gm_append, oneUp, List.any_eq_true]
  constructor
  · rintro ⟨i, _, h⟩
    rw [cutAt, Bool.and_eq_true] at h
    exact ⟨s.take i, s.drop i, by simp, h.1, h.2⟩
  · rintro ⟨t, u, rfl, h1, h2⟩
    refine ⟨t.length, by simp; omega, ?_⟩
    simp [cutAt, h1, h2]
def anyAt (a b s : List UInt8) (i k : Nat) : Bool := (List.range (k - i)).any fun j => cutTo a b s i (i + j)
theorem anyAt_self (a b s : List UInt8) (i : Nat) : anyAt a b s i i = false := by simp [anyAt]
theorem anyAt_succ (a b s : List UInt8) {i k : Nat} (h : i ≤ k) : anyAt a b s i (k + 1) = (anyAt a b s i k || cutTo a b s i k) := by
  unfold anyAt
  rw [show k + 1 - i = (k - i) + 1 from by omega, List.range_succ, List.any_append]
  simp [show i + (k - i) = k from by omega]
def anyUp (a b s : List UInt8) (n : Nat) : Bool := (List.range n).any fun i => anyAt a b s i (s.length + 1)
theorem anyUp_succ (a b s : List UInt8) (n : Nat) : anyUp a b s (n + 1) = (anyUp a b s n || anyAt a b s n (s.length + 1)) := by
  unfold anyUp; rw [List.range_succ, List.any_append]; simp
theorem anyUp_all (a b s : List UInt8) : anyUp a b s (s.length + 1) = gm (a ++ 42 :: b) s := by
  rw [Bool.eq_iff_iff, gm_append, anyUp, List.any_eq_true]
  constructor
  · rintro ⟨i, _, h⟩
    rw [anyAt, List.any_eq_true] at h
    obtain ⟨j, _, h⟩ := h
    rw [cutTo, Bool.and_eq_true] at h
    refine ⟨s.take i, s.drop i, by simp, h.1, ?_⟩
    rw [gm_star, star_iff]
    exact ⟨(s.drop i).take j, s.drop (i + j), by rw [← List.drop_drop, List.take_append_drop], h.2⟩
  · rintro ⟨t, u, rfl, h1, h2⟩
    rw [gm_star, star_iff] at h2
    obtain ⟨x, y, rfl, h2⟩ := h2
    refine ⟨t.length, by simp; omega, ?_⟩
    rw [anyAt, List.any_eq_true]
    refine ⟨x.length, by simp; omega, ?_⟩
    rw [cutTo, Bool.and_eq_true]
    refine ⟨by simp [h1], ?_⟩
    rw [← List.drop_drop]; simp [h2]

/-! ### Stars beside one another -/
def thick (n : Nat) : List UInt8 → List UInt8
  | [] => []
  | c :: p => c :: ((if c = 42 then stars n else []) ++ thick n p)
theorem thick_snoc (n : Nat) (p : List UInt8) (c : UInt8) : thick n (p ++ [c]) = thick n p ++ c :: (if c = 42 then stars n else []) := by
  induction p with
  | nil => simp [thick]
  | cons d p ih => simp [thick, ih]
theorem gm_thick (n : Nat) (p s : List UInt8) : gm (thick n p) s = gm p s := by
  induction p generalizing s with
  | nil => rfl
  | cons c p ih =>
    by_cases hc : c = 42
    · subst hc
      have e : thick n (42 :: p) = stars (n + 1) ++ thick n p := by simp [thick, stars, List.replicate_succ]
      have e2 : gm (thick n p) = gm p := funext ih
      rw [e, gm_stars, gm_star, e2]
    · have e : thick n (c :: p) = c :: thick n p := by simp [thick, hc]
      rw [e]
      cases s with
      | nil => rw [gm_cons_nil hc, gm_cons_nil hc]
      | cons d s => rw [gm_cons hc, gm_cons hc, ih]
def steps : Nat → List UInt8
  | 0 => []
  | n + 1 => 97 :: 42 :: steps n
theorem steps_succ (n : Nat) : steps (n + 1) = steps n ++ [97, 42] := by
  induction n with
  | zero => rfl
  | succ n ih =>
    rw [show steps (n + 1 + 1) = 97 :: 42 :: steps (n + 1) from rfl]
    conv => lhs; rw [ih]
    rfl
def aas (n : Nat) : List UInt8 := List.replicate n 97
theorem aas_succ (n : Nat) : aas (n + 1) = aas n ++ [97] := List.replicate_succ'
theorem gm_steps_no (n k : Nat) : gm (steps n ++ [98]) (aas k) = false := by
  cases h : gm (steps n ++ [98]) (aas k) with
  | false => rfl
  | true =>
    obtain ⟨t, u, e, _, h2⟩ := (gm_append _ _ _).1 h
    rw [gm_plain (by intro c hc; rw [List.mem_singleton] at hc; subst hc; decide), beq_iff_eq] at h2
    have : (98 : UInt8) ∈ aas k := by rw [e, ← h2]; simp
    have := List.eq_of_mem_replicate this
    exact absurd this (by decide)
theorem gm_steps_yes (n k : Nat) (h : n ≤ k) : gm (steps (n + 1)) (aas (k + 1)) = true := by
  induction n generalizing k with
  | zero =>
    rw [show steps 1 = [97, 42] from rfl, show aas (k + 1) = 97 :: aas k from rfl, gm_cons (by decide), gm_star, star_true]
    rfl
  | succ n ih =>
    rw [show steps (n + 1 + 1) = 97 :: 42 :: steps (n + 1) from rfl, show aas (k + 1) = 97 :: aas k from rfl, gm_cons (by decide), gm_star]
    obtain ⟨j, rfl⟩ : ∃ j, k = j + 1 := ⟨k - 1, by omega⟩
    rw [star_here (ih j (by omega))]
    rfl
theorem gm_steps {n : Nat} (h : n < 40) : gm (steps n) (aas 60) = decide (0 < n) := by
  cases n with
  | zero => rfl
  | succ n => rw [gm_steps_yes n 59 (by omega)]; simp

/-! ### The table of the document's answer -/
theorem gm_snoc_star (x s : List UInt8) (k : Nat) (hk : k < s.length) : gm (x ++ [42]) (s.take (k + 1)) = (gm x (s.take (k + 1)) || gm (x ++ [42]) (s.take k)) := by
  have hstar : ∀ u, gm [42] u = true := fun u => by rw [gm_star]; exact star_true u
  rw [Bool.eq_iff_iff, Bool.or_eq_true, gm_append, gm_append]
  constructor
  · rintro ⟨t, u, e, h1, _⟩
    by_cases hu : u = []
    · subst hu; rw [List.append_nil] at e; left; rw [e]; exact h1
    · right
      have hlen := congrArg List.length e
      rw [List.length_append, List.length_take, Nat.min_eq_left (by omega)] at hlen
      have hu0 : 0 < u.length := List.length_pos_iff.2 hu
      refine ⟨t, (s.take k).drop t.length, ?_, h1, hstar _⟩
      have ht : t = (s.take k).take t.length := by
        have := congrArg (List.take t.length) e
        rw [List.take_left, List.take_take, Nat.min_eq_left (by omega)] at this
        rw [List.take_take, Nat.min_eq_left (by omega), this]
      conv => lhs; rw [← List.take_append_drop t.length (s.take k), ← ht]
  · rintro (h | ⟨t, u, e, h1, _⟩)
    · exact ⟨_, [], by simp, h, hstar _⟩
    · exact ⟨t, u ++ [s[k]], by rw [List.take_succ_eq_append_getElem hk, e, List.append_assoc], h1, hstar _⟩
theorem gm_snoc_star0 (x : List UInt8) : gm (x ++ [42]) [] = gm x [] := by rw [gm_end, gm_end]; simp
theorem gm_snoc {c : UInt8} (hc : c ≠ 42) (x s : List UInt8) (k : Nat) (hk : k < s.length) : gm (x ++ [c]) (s.take (k + 1)) = (gm x (s.take k) && (c == 63 || c == s[k])) := by
  rw [List.take_succ_eq_append_getElem hk, Bool.eq_iff_iff, gm_append, Bool.and_eq_true]
  constructor
  · rintro ⟨t, u, e, h1, h2⟩
    cases u with
    | nil => rw [gm_cons_nil hc] at h2; cases h2
    | cons d u =>
      rw [gm_cons hc, Bool.and_eq_true, gm_nil, List.isEmpty_iff] at h2
      obtain ⟨h2, rfl⟩ := h2
      obtain ⟨e1, e2⟩ := List.append_inj' e rfl
      injection e2 with e2
      rw [e1, e2]
      exact ⟨h1, h2⟩
  · rintro ⟨h1, h2⟩
    exact ⟨s.take k, [s[k]], rfl, h1, by rw [gm_cons hc, h2]; rfl⟩
theorem gm_snoc0 {c : UInt8} (hc : c ≠ 42) (x : List UInt8) : gm (x ++ [c]) [] = false := by rw [gm_end]; simp [hc]
end Go.Proofs.YtideieolgjhbiaaGreatDoor
