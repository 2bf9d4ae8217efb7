/- The document's numbers, as whole numbers or none (overflow); nothing of the program. -/
namespace Go.Proofs.Ythcakiibkocheaa

def top : Int := 9223372036854775807
theorem top_eq : top = 9223372036854775807 := rfl
/-- What a pair counts as: a number of millionths, or none: overflow. -/
def cnt (o : Bool) (n : Int) : Option Int := if o = true ∨ n = -9223372036854775808 then none else some n
def ov : Option Int → Bool
  | none => true
  | some _ => false
def nn : Option Int → Int
  | none => 0
  | some n => n
/-- A number within the range, or overflow. -/
def V (r : Option Int) : Prop := -9223372036854775807 ≤ nn r ∧ nn r ≤ 9223372036854775807
/-- What lies in the range. -/
def norm (x : Int) : Option Int := if -9223372036854775807 ≤ x ∧ x ≤ 9223372036854775807 then some x else none
def fIs (o : Bool) (n : Int) : Bool := if o = true then decide (n = 0) else decide (-9223372036854775807 ≤ n)
def fAdd : Option Int → Option Int → Option Int
  | some a, some b => norm (a + b)
  | _, _ => none
def fMul : Option Int → Option Int → Option Int
  | some a, some b => norm ((a * b).tdiv 1000000)
  | _, _ => none
def fDiv : Option Int → Option Int → Option Int
  | some a, some b => if b = 0 then none else norm ((a * 1000000).tdiv b)
  | _, _ => none
def fNeg : Option Int → Option Int
  | some a => some (-a)
  | none => none
def fCmp : Option Int → Option Int → Int
  | some a, some b => if a = b then 0 else if b < a then 1 else -1
  | none, some _ => 1
  | some _, none => -1
  | none, none => 0
def oadd : Option Int → Option Int → Option Int
  | some a, some b => some (a + b)
  | _, _ => none
def sumL : List (Option Int) → Option Int
  | [] => some 0
  | x :: r => oadd x (sumL r)
def fSum (l : List (Option Int)) : Option Int := match sumL l with
  | some a => norm a
  | none => none

theorem V.none : V none := ⟨by decide, by decide⟩
theorem V.norm (x : Int) : V (norm x) := by
  unfold Ythcakiibkocheaa.norm
  split
  · assumption
  · exact V.none
theorem V.cnt {o : Bool} {n : Int} (h0 : -9223372036854775808 ≤ n) (h1 : n ≤ 9223372036854775807) : V (cnt o n) := by
  unfold Ythcakiibkocheaa.cnt
  split
  · exact V.none
  · rename_i h
    have : ¬ n = -9223372036854775808 := fun e => h (Or.inr e)
    exact ⟨by show _ ≤ n; omega, h1⟩
theorem cnt_val {r : Option Int} (h : V r) : cnt (ov r) (nn r) = r := by
  cases r with
  | none => rfl
  | some n =>
    have h1 : -9223372036854775807 ≤ n := h.1
    unfold cnt
    rw [if_neg]
    · rfl
    · intro e
      rcases e with e | e
      · cases e
      · have : n = -9223372036854775808 := e
        omega
theorem V.add (x y : Option Int) : V (fAdd x y) := by
  cases x <;> cases y <;> first | exact V.none | exact V.norm _
theorem V.mul (x y : Option Int) : V (fMul x y) := by
  cases x <;> cases y <;> first | exact V.none | exact V.norm _
theorem V.div (x y : Option Int) : V (fDiv x y) := by
  cases x <;> cases y <;> try exact V.none
  show V (if _ then _ else _)
  split
  · exact V.none
  · exact V.norm _
theorem V.neg {x : Option Int} (h : V x) : V (fNeg x) := by
  cases x with
  | none => exact V.none
  | some n =>
    have h1 : -9223372036854775807 ≤ n := h.1
    have h2 : n ≤ 9223372036854775807 := h.2
    exact ⟨by show _ ≤ -n; omega, by show -n ≤ _; omega⟩
theorem V.sum (l : List (Option Int)) : V (fSum l) := by
  unfold fSum
  split
  · exact V.norm _
  · exact V.none
theorem fSum_two (x y : Option Int) : fSum [x, y] = fAdd x y := by
  cases x <;> cases y <;> simp [fSum, sumL, oadd, fAdd]
def cnts (l : List (Bool × Int)) : List (Option Int) := l.map fun x => cnt x.1 x.2
theorem oadd_assoc (a b c : Option Int) : oadd (oadd a b) c = oadd a (oadd b c) := by
  cases a <;> cases b <;> cases c <;> simp [oadd]
  omega
theorem oadd_none (a : Option Int) : oadd a none = none := by cases a <;> rfl
theorem sumL_append (x y : List (Option Int)) : sumL (x ++ y) = oadd (sumL x) (sumL y) := by
  induction x with
  | nil => cases h : sumL y <;> simp [sumL, oadd]; exact h; exact h
  | cons c x ih => rw [List.cons_append, sumL, ih, sumL, oadd_assoc]
theorem take_snoc {l : List (Bool × Int)} {j : Nat} (h : j < l.length) : l.take (j + 1) = l.take j ++ [l.getD j (false, 0)] := by
  rw [List.take_add_one, List.getD_eq_getElem?_getD, List.getElem?_eq_getElem h]
  rfl
theorem sumL_snoc {l : List (Bool × Int)} {j : Nat} {s a : Int} (h : j < l.length) (hs : sumL (cnts (l.take j)) = some s) (ha : cnt (l.getD j (false, 0)).1 (l.getD j (false, 0)).2 = some a) : sumL (cnts (l.take (j + 1))) = some (s + a) := by
  rw [take_snoc h]
  unfold cnts at *
  rw [List.map_append, sumL_append, hs, List.map_cons, ha]
  simp [sumL, oadd]
theorem sumL_none {l : List (Bool × Int)} {j : Nat} (h : j < l.length) (ha : cnt (l.getD j (false, 0)).1 (l.getD j (false, 0)).2 = none) : sumL (cnts l) = none := by
  have e : l = l.take j ++ ([l.getD j (false, 0)] ++ l.drop (j + 1)) := by rw [← List.append_assoc, ← take_snoc h, List.take_append_drop]
  rw [e]
  unfold cnts
  rw [List.map_append, List.map_append, sumL_append, sumL_append, List.map_cons, ha]
  exact oadd_none _
theorem sumL_range : ∀ (l : List (Bool × Int)), (∀ x ∈ l, -9223372036854775808 ≤ x.2 ∧ x.2 ≤ 9223372036854775807) → ∀ s, sumL (cnts l) = some s → -(l.length * 9223372036854775808 : Int) ≤ s ∧ s ≤ l.length * 9223372036854775808
  | [], _, s, h => by cases h; simp
  | x :: l, hl, s, h => by
    have ih := sumL_range l fun y hy => hl y (List.mem_cons_of_mem _ hy)
    have hx := hl x List.mem_cons_self
    have hv : V (cnt x.1 x.2) := V.cnt hx.1 hx.2
    show _ ∧ _
    unfold cnts at h ih
    rw [List.map_cons, sumL] at h
    cases hc : cnt x.1 x.2 with
    | none => rw [hc] at h; cases h
    | some a =>
      rw [hc] at h hv
      have h1 : -9223372036854775807 ≤ a := hv.1
      have h2 : a ≤ 9223372036854775807 := hv.2
      cases ht : sumL (List.map (fun x => cnt x.1 x.2) l) with
      | none => rw [ht] at h; cases h
      | some b =>
        rw [ht] at h
        have e : a + b = s := by cases h; rfl
        have := ih b ht
        rw [List.length_cons]
        omega
theorem cnt_norm {s : Int} (h0 : -9223372036854775808 ≤ s) (h1 : s ≤ 9223372036854775807) : cnt false s = norm s := by
  unfold cnt norm
  by_cases h : s = -9223372036854775808
  · rw [if_pos (Or.inr h), if_neg (by omega)]
  · rw [if_neg (by intro e; rcases e with e | e; cases e; exact h e), if_pos (by omega)]
theorem norm_out {s : Int} (h : s < -9223372036854775808 ∨ 9223372036854775807 < s) : norm s = none := by
  unfold norm
  rw [if_neg (by omega)]
/-- A whole number held in twice 64 bits. -/
def lo (s : Int) : Int := s % 18446744073709551616
def hi (s : Int) : Int := s / 18446744073709551616 % 18446744073709551616
def sb (a : Int) : Int := if a < 0 then 18446744073709551615 else 0
def cy (s a : Int) : Int := (lo s + a % 18446744073709551616) / 18446744073709551616
theorem lo_range (s : Int) : 0 ≤ lo s ∧ lo s < 18446744073709551616 := by unfold lo; omega
theorem hi_range (s : Int) : 0 ≤ hi s ∧ hi s < 18446744073709551616 := by unfold hi; omega
theorem sb_range (a : Int) : 0 ≤ sb a ∧ sb a < 18446744073709551616 := by unfold sb; split <;> omega
theorem cy_range (s a : Int) : 0 ≤ cy s a ∧ cy s a ≤ 1 := by unfold cy lo; omega
theorem lo_add (s a : Int) : (lo s + a % 18446744073709551616) % 18446744073709551616 = lo (s + a) := by unfold lo; omega
theorem hi_add (s a : Int) (h0 : -9223372036854775808 ≤ a) (h1 : a ≤ 9223372036854775807) : (hi s + sb a + cy s a) % 18446744073709551616 = hi (s + a) := by
  unfold hi sb cy lo
  by_cases h : a < 0
  · rw [if_pos h]
    have e : a % 18446744073709551616 = a + 18446744073709551616 := by omega
    rw [e]
    have e2 : (s + a) / 18446744073709551616 = s / 18446744073709551616 + (s % 18446744073709551616 + a) / 18446744073709551616 := by omega
    rw [e2]
    have e3 : (s % 18446744073709551616 + (a + 18446744073709551616)) / 18446744073709551616 = (s % 18446744073709551616 + a) / 18446744073709551616 + 1 := by omega
    rw [e3]
    generalize s / 18446744073709551616 = q
    generalize (s % 18446744073709551616 + a) / 18446744073709551616 = r
    omega
  · rw [if_neg h]
    have e : a % 18446744073709551616 = a := by omega
    rw [e]
    have e2 : (s + a) / 18446744073709551616 = s / 18446744073709551616 + (s % 18446744073709551616 + a) / 18446744073709551616 := by omega
    rw [e2]
    generalize s / 18446744073709551616 = q
    generalize (s % 18446744073709551616 + a) / 18446744073709551616 = r
    omega
/-- Whether what is held in twice 64 bits fits into 64. -/
theorem hi_fits (s : Int) (h0 : -1000000 * 9223372036854775808 ≤ s) (h1 : s ≤ 1000000 * 9223372036854775808) (n : Int) (hn : n = (if lo s < 9223372036854775808 then lo s else lo s - 18446744073709551616)) :
    (hi s = sb n ∧ n = s ∧ -9223372036854775808 ≤ s ∧ s ≤ 9223372036854775807) ∨ (hi s ≠ sb n ∧ (s < -9223372036854775808 ∨ 9223372036854775807 < s)) := by
  unfold hi sb lo at *
  by_cases h : s % 18446744073709551616 < 9223372036854775808
  · rw [if_pos h] at hn
    have hn0 : ¬ n < 0 := by omega
    rw [if_neg hn0]
    by_cases e : s / 18446744073709551616 = 0
    · left; omega
    · right; omega
  · rw [if_neg h] at hn
    have hn0 : n < 0 := by omega
    rw [if_pos hn0]
    by_cases e : s / 18446744073709551616 = -1
    · left; omega
    · right; omega
end Go.Proofs.Ythcakiibkocheaa
