/- What is left of samples, when each that a later one beats goes: plainly. -/
import Derived.Test.YtpemknkkignmcaaEPlain
namespace Go.Proofs.Ytpemknkkignmcaa
open Go.RowKit

/-- Where a number stands, as a whole number: overflow above all. -/
def ky : Option Int → Int
  | none => 18446744073709551616
  | some n => n
/-- Who is told: the greatest by its value, the least by its value's negative. -/
def kg (g : Bool) (s : Smp) : Int := if g = true then ky (cnt s.2.1 s.2.2) else - ky (cnt s.2.1 s.2.2)
def thn (q : Smp → Int) : List Smp → List Smp
  | [] => []
  | s :: l => if l.any (fun x => decide (q s ≤ q x)) = true then thn q l else s :: thn q l
theorem thn_sub (q : Smp → Int) : ∀ l, (thn q l).Sublist l
  | [] => List.Sublist.refl _
  | s :: r => by
    unfold thn
    split
    · exact (thn_sub q r).trans (List.sublist_cons_self s r)
    · exact (thn_sub q r).cons_cons s
theorem thn_cons (q : Smp → Int) (s : Smp) (l : List Smp) : thn q (s :: l) = if l.any (fun x => decide (q s ≤ q x)) = true then thn q l else s :: thn q l := rfl
theorem thn_snoc (q : Smp → Int) (s : Smp) : ∀ l, thn q (l ++ [s]) = (thn q l).filter (fun x => decide (q s < q x)) ++ [s]
  | [] => rfl
  | a :: r => by
    have ih := thn_snoc q s r
    rw [List.cons_append, thn_cons, thn_cons, List.any_append, ih]
    by_cases h1 : r.any (fun x => decide (q a ≤ q x)) = true
    · rw [h1, if_pos rfl, if_pos (by simp)]
    · have h1' : r.any (fun x => decide (q a ≤ q x)) = false := by cases h : r.any (fun x => decide (q a ≤ q x)) <;> simp_all
      rw [h1']
      have e : ([s].any fun x => decide (q a ≤ q x)) = decide (q a ≤ q s) := by simp
      rw [e]
      by_cases h2 : q a ≤ q s
      · rw [if_pos (by simp [h2]), if_neg (by simp), List.filter_cons, if_neg (by simp; omega)]
      · rw [if_neg (by simp; omega), if_neg (by simp), List.filter_cons, if_pos (by simp; omega)]
        rfl
theorem thn_down (q : Smp → Int) : ∀ l, (thn q l).Pairwise (fun a b => q b < q a)
  | [] => List.Pairwise.nil
  | s :: r => by
    unfold thn
    split
    · exact thn_down q r
    · rename_i h
      refine List.pairwise_cons.2 ⟨fun b hb => ?_, thn_down q r⟩
      have h' : r.any (fun x => decide (q s ≤ q x)) = false := by simpa using h
      have := List.any_eq_false.1 h' b ((thn_sub q r).subset hb)
      simp at this
      exact this
theorem fg_none (t : Int) : ∀ l : List Smp, (∀ s ∈ l, t < s.1) → fg t l = l
  | [], _ => rfl
  | s :: r, h => by
    have := h s List.mem_cons_self
    unfold fg
    rw [if_neg (by omega)]
theorem thn_fg (q : Smp → Int) (t : Int) : ∀ l : List Smp, l.Pairwise (fun a b => a.1 < b.1) → fg t (thn q l) = thn q (fg t l)
  | [], _ => rfl
  | s :: r, hp => by
    rw [List.pairwise_cons] at hp
    have ih := thn_fg q t r hp.2
    by_cases h : s.1 ≤ t
    · show _ = thn q (if s.1 ≤ t then fg t r else s :: r)
      rw [if_pos h, ← ih]
      show fg t (if _ then thn q r else s :: thn q r) = _
      split
      · rfl
      · show (if s.1 ≤ t then fg t (thn q r) else _) = _
        rw [if_pos h]
    · have h1 : fg t (s :: r) = s :: r := by show (if s.1 ≤ t then fg t r else s :: r) = _; rw [if_neg h]
      rw [h1]
      refine fg_none t _ fun x hx => ?_
      rcases List.mem_cons.1 ((thn_sub q (s :: r)).subset hx) with e | e
      · rw [e]; omega
      · have := hp.1 x e; omega
theorem thn_nil {q : Smp → Int} {l : List Smp} : thn q l = [] ↔ l = [] := by
  rcases List.eq_nil_or_concat l with rfl | ⟨r, x, rfl⟩
  · exact ⟨fun _ => rfl, fun _ => rfl⟩
  · rw [List.concat_eq_append, thn_snoc]
    exact ⟨fun h => by simp at h, fun h => by simp at h⟩
theorem thn_lst (q : Smp → Int) (l : List Smp) : lst (thn q l) = lst l := by
  rcases List.eq_nil_or_concat l with rfl | ⟨r, x, rfl⟩
  · rfl
  · rw [List.concat_eq_append, thn_snoc, lst_snoc, lst_snoc]
/-- The first one left is the best. -/
theorem thn_best (q : Smp → Int) : ∀ l : List Smp, l ≠ [] → (thn q l).getD 0 s0 ∈ l ∧ ∀ x ∈ l, q x ≤ q ((thn q l).getD 0 s0)
  | [], h => absurd rfl h
  | s :: r, _ => by
    unfold thn
    split
    · rename_i h
      obtain ⟨y, hy, hq⟩ := List.any_eq_true.1 h
      have hq' : q s ≤ q y := by simpa using hq
      obtain ⟨i1, i2⟩ := thn_best q r (fun e => by rw [e] at hy; cases hy)
      refine ⟨List.mem_cons_of_mem _ i1, fun x hx => ?_⟩
      rcases List.mem_cons.1 hx with e | e
      · rw [e]; exact Int.le_trans hq' (i2 y hy)
      · exact i2 x e
    · rename_i h
      have h' : r.any (fun x => decide (q s ≤ q x)) = false := by simpa using h
      refine ⟨List.mem_cons_self, fun x hx => ?_⟩
      show q x ≤ q s
      rcases List.mem_cons.1 hx with e | e
      · rw [e]; exact Int.le_refl _
      · have := List.any_eq_false.1 h' x e
        simp at this
        omega
/-- Who is left ahead of one that comes last. -/
def kp (q : Smp → Int) (s : Smp) (r : List Smp) : List Smp := r.filter (fun x => decide (q s < q x))
theorem kp_pop {q : Smp → Int} {s x : Smp} {r : List Smp} (h : q x ≤ q s) : kp q s (r ++ [x]) = kp q s r := by
  unfold kp
  rw [List.filter_append]
  simp
  omega
theorem kp_all {q : Smp → Int} {s x : Smp} {r : List Smp} (hp : (r ++ [x]).Pairwise (fun a b => q b < q a)) (h : ¬ q x ≤ q s) : kp q s (r ++ [x]) = r ++ [x] := by
  unfold kp
  refine List.filter_eq_self.2 fun a ha => ?_
  rcases List.mem_append.1 ha with e | e
  · have := (List.pairwise_append.1 hp).2.2 a e x List.mem_cons_self
    simp; omega
  · obtain rfl : a = x := by simpa using e
    simp; omega
theorem kp_len (q : Smp → Int) (s : Smp) (r : List Smp) : (kp q s r).length ≤ r.length := List.length_filter_le _ _

/-- How numbers are compared, by where they stand. -/
theorem cmp_ky {x y : Option Int} (hx : V x) (hy : V y) : (fCmp x y ≤ 0 ↔ ky x ≤ ky y) ∧ (0 ≤ fCmp x y ↔ ky y ≤ ky x) := by
  have h1 := hx.1
  have h2 := hx.2
  have h3 := hy.1
  have h4 := hy.2
  cases x with
  | none =>
    cases y with
    | none => exact ⟨⟨fun _ => Int.le_refl _, fun _ => by decide⟩, ⟨fun _ => Int.le_refl _, fun _ => by decide⟩⟩
    | some b =>
      simp only [nn] at h3 h4
      refine ⟨⟨fun h => absurd (show (1 : Int) ≤ 0 from h) (by decide), fun h => ?_⟩, ⟨fun _ => ?_, fun _ => (by decide : (0 : Int) ≤ 1)⟩⟩
      · exfalso; simp only [ky] at h; omega
      · simp only [ky]; omega
  | some a =>
    cases y with
    | none =>
      simp only [nn] at h1 h2
      refine ⟨⟨fun _ => ?_, fun _ => (by decide : (-1 : Int) ≤ 0)⟩, ⟨fun h => absurd (show (0 : Int) ≤ -1 from h) (by decide), fun h => ?_⟩⟩
      · simp only [ky]; omega
      · exfalso; simp only [ky] at h; omega
    | some b =>
      simp only [fCmp, ky]
      by_cases e : a = b
      · rw [if_pos e]; omega
      · rw [if_neg e]
        by_cases e2 : b < a
        · rw [if_pos e2]; omega
        · rw [if_neg e2]; omega
end Go.Proofs.Ytpemknkkignmcaa
