/- Texts that the others lean on. -/
import Derived.Lib.Bytealg
import Derived.Lib.Index
namespace Go.Proofs.YtjgckfcocmhnhaaGreatDoor.Lb
abbrev Str := List UInt8
abbrev Pr := Str × Str
/-! ### Texts, byte by byte -/
theorem str_irrefl (a : Str) : ¬ a < a := List.lt_irrefl a
theorem str_trans {a b c : Str} (h : a < b) (k : b < c) : a < c := List.lt_trans h k
theorem str_asymm {a b : Str} (h : a < b) : ¬ b < a := List.lt_asymm h
theorem str_eq {a b : Str} (h : ¬ a < b) (k : ¬ b < a) : a = b := List.le_antisymm (List.not_lt.1 k) (List.not_lt.1 h)
theorem less_eq (a b : Str) : Go.Op.bytesLess a b = decide (a < b) := by
 induction a generalizing b with
 | nil => cases b <;> simp [Go.Op.bytesLess]
 | cons x a ih =>
  cases b with
  | nil => simp [Go.Op.bytesLess]
  | cons y b =>
   rw [Go.Op.bytesLess, ih]
   by_cases h : x < y
   ·
    simp [h, List.cons_lt_cons_iff]
   ·
    by_cases e : x = y
    ·
     subst e; simp
    ·
     simp [h, e, List.cons_lt_cons_iff]
theorem cmpB_eq (a b : Str) : Lib.compareBytes a b = if a < b then -1 else if b < a then 1 else 0 := by
 induction a generalizing b with
 | nil => cases b <;> simp [Lib.compareBytes]
 | cons x a ih =>
  cases b with
  | nil => simp [Lib.compareBytes]
  | cons y b =>
   rw [Lib.compareBytes, ih]
   by_cases h : x < y
   ·
    simp [h, List.cons_lt_cons_iff]
   ·
    by_cases h2 : y < x
    ·
     have hne : x ≠ y := fun e => by subst e; exact h h2
     simp [h, h2, List.cons_lt_cons_iff, hne]
    ·
     have e : x = y := UInt8.le_antisymm (UInt8.not_lt.1 h2) (UInt8.not_lt.1 h)
     subst e
     simp
theorem cmpB_zero (a b : Str) : Lib.compareBytes a b = 0 ↔ a = b := by
 rw [cmpB_eq]
 by_cases h : a < b
 ·
  simp [h]; intro e; subst e; exact str_irrefl _ h
 ·
  by_cases k : b < a
  ·
   simp [h, k]; intro e; subst e; exact h k
  ·
   simp [h, k]; exact str_eq h k
theorem cmpB_neg (a b : Str) : Lib.compareBytes a b = - Lib.compareBytes b a := by
 rw [cmpB_eq, cmpB_eq]
 by_cases h : a < b
 ·
  simp [h, str_asymm h]
 ·
  by_cases k : b < a <;> simp [h, k]
theorem cmpB_cases (a b : Str) : Lib.compareBytes a b = -1 ∨ Lib.compareBytes a b = 0 ∨ Lib.compareBytes a b = 1 := by
 rw [cmpB_eq]
 by_cases h : a < b
 ·
  simp [h]
 ·
  by_cases k : b < a <;> simp [h, k]
theorem cmpB_trans {a b c : Str} (h : Lib.compareBytes a b = -1) (k : Lib.compareBytes b c = -1) : Lib.compareBytes a c = -1 := by
 have f : ∀ x y : Str, Lib.compareBytes x y = -1 ↔ x < y := fun x y => by
  rw [cmpB_eq]
  by_cases h : x < y
  ·
   simp [h]
  ·
   by_cases k : y < x <;> simp [h, k]
 rw [f] at *
 exact str_trans h k
/-! ### Names, values, sets -/
def digB (c : UInt8) : Bool := decide (48 ≤ c.toNat) && decide (c.toNat ≤ 57)
def letB (c : UInt8) : Bool := decide (97 ≤ c.toNat) && decide (c.toNat ≤ 122) || decide (65 ≤ c.toNat) && decide (c.toNat ≤ 90)
def nameCh (c : UInt8) : Bool := digB c || letB c || decide (c.toNat = 95)
def fName (s : Str) : Bool := decide (1 ≤ s.length) && decide (s.length ≤ 20) && !digB (s.headD 0) && s.all nameCh
def fVal (s : Str) : Bool := decide (1 ≤ s.length) && decide (s.length ≤ 30) && !s.contains 10
def okAt (l : List Pr) (i : Nat) : Bool := fName (l.getD i ([], [])).1 && fVal (l.getD i ([], [])).2 && (decide (i = 0) || decide ((l.getD (i - 1) ([], [])).1 < (l.getD i ([], [])).1))
def fIs (l : List Pr) : Bool := decide (l.length ≤ 8) && (List.range l.length).all (okAt l)
def rises (l : List Pr) : Prop := l.Pairwise (fun a b => a.1 < b.1)
/-! ### Sorted by name: one row, where no name comes twice -/
def ins (p : Pr) : List Pr → List Pr
 | [] => [p]
 | q :: r => if q.1 < p.1 then q :: ins p r else p :: q :: r
def srt : List Pr → List Pr
 | [] => []
 | p :: r => ins p (srt r)
def sortedN (l : List Pr) : Prop := l.Pairwise (fun a b => ¬ b.1 < a.1)
/-! ### Make, Get, With, Keep, Without, Cmp -/
def twice (l : List Pr) : Bool := !decide (l.map (·.1)).Nodup
def full (l : List Pr) : List Pr := l.filter fun p => !p.2.isEmpty
def makeE (l : List Pr) : Int := if twice l = true then 31 else if fIs (srt (full l)) = true then 0 else 30
def makeL (l : List Pr) : List Pr := if makeE l = 0 then srt (full l) else []
def fGet (l : List Pr) (n : Str) : Str := ((l.find? fun p => decide (p.1 = n)).map (·.2)).getD []
def fKeep (l : List Pr) (names : List Str) : List Pr := l.filter fun p => names.contains p.1
def nm : Str := [95, 95, 110, 97, 109, 101, 95, 95]
def fWithout (l : List Pr) (names : List Str) : List Pr := l.filter fun p => !decide (p.1 = nm) && !names.contains p.1
def pCmp (a b : Pr) : Int := if Lib.compareBytes a.1 b.1 = 0 then Lib.compareBytes a.2 b.2 else Lib.compareBytes a.1 b.1
def fCmp : List Pr → List Pr → Int
 | [], [] => 0
 | [], _ :: _ => -1
 | _ :: _, [] => 1
 | a :: as, b :: bs => if pCmp a b = 0 then fCmp as bs else pCmp a b
theorem pCmp_zero (a b : Pr) : pCmp a b = 0 ↔ a = b := by
 unfold pCmp
 by_cases h : Lib.compareBytes a.1 b.1 = 0
 ·
  rw [if_pos h, cmpB_zero]
  rw [cmpB_zero] at h
  exact ⟨fun e => Prod.ext h e, fun e => by rw [e]⟩
 ·
  rw [if_neg h]
  refine ⟨fun e => absurd e h, fun e => ?_⟩
  rw [e, (cmpB_zero _ _).2 rfl] at h
  exact absurd rfl h
theorem pCmp_neg (a b : Pr) : pCmp a b = - pCmp b a := by
 unfold pCmp
 have e1 := cmpB_neg a.1 b.1
 have e2 := cmpB_neg a.2 b.2
 by_cases h : Lib.compareBytes a.1 b.1 = 0
 ·
  rw [if_pos h, if_pos (by omega)]; exact e2
 ·
  rw [if_neg h, if_neg (by omega)]; exact e1
theorem pCmp_cases (a b : Pr) : pCmp a b = -1 ∨ pCmp a b = 0 ∨ pCmp a b = 1 := by
 unfold pCmp
 split
 ·
  exact cmpB_cases _ _
 ·
  exact cmpB_cases _ _
theorem pCmp_trans {a b c : Pr} (h : pCmp a b = -1) (k : pCmp b c = -1) : pCmp a c = -1 := by
 unfold pCmp at *
 by_cases h1 : Lib.compareBytes a.1 b.1 = 0
 ·
  rw [if_pos h1] at h
  rw [(cmpB_zero _ _).1 h1]
  by_cases h2 : Lib.compareBytes b.1 c.1 = 0
  ·
   rw [if_pos h2] at k ⊢; exact cmpB_trans h k
  ·
   rw [if_neg h2] at k ⊢; exact k
 ·
  rw [if_neg h1] at h
  by_cases h2 : Lib.compareBytes b.1 c.1 = 0
  ·
   rw [← (cmpB_zero _ _).1 h2, if_neg h1]; exact h
  ·
   rw [if_neg h2] at k
   have := cmpB_trans h k
   rw [if_neg (by omega)]; exact this
theorem fCmp_zero (a b : List Pr) : fCmp a b = 0 ↔ a = b := by
 induction a generalizing b with
 | nil => cases b <;> simp [fCmp]
 | cons x a ih =>
  cases b with
  | nil => simp [fCmp]
  | cons y b =>
   rw [fCmp]
   by_cases h : pCmp x y = 0
   ·
    rw [if_pos h, ih, (pCmp_zero _ _).1 h]; simp
   ·
    rw [if_neg h]
    refine ⟨fun e => absurd e h, fun e => ?_⟩
    cases e
    exact absurd ((pCmp_zero _ _).2 rfl) h
theorem fCmp_neg (a b : List Pr) : fCmp a b = - fCmp b a := by
 induction a generalizing b with
 | nil => cases b <;> simp [fCmp]
 | cons x a ih =>
  cases b with
  | nil => simp [fCmp]
  | cons y b =>
   rw [fCmp, fCmp]
   have e := pCmp_neg x y
   by_cases h : pCmp x y = 0
   ·
    rw [if_pos h, if_pos (by omega)]; exact ih b
   ·
    rw [if_neg h, if_neg (by omega)]; exact e
theorem fCmp_cases (a b : List Pr) : fCmp a b = -1 ∨ fCmp a b = 0 ∨ fCmp a b = 1 := by
 induction a generalizing b with
 | nil => cases b <;> simp [fCmp]
 | cons x a ih =>
  cases b with
  | nil => simp [fCmp]
  | cons y b =>
   rw [fCmp]
   split
   ·
    exact ih b
   ·
    exact pCmp_cases x y
theorem fCmp_trans {a b c : List Pr} (h : fCmp a b = -1) (k : fCmp b c = -1) : fCmp a c = -1 := by
 induction a generalizing b c with
 | nil => cases b <;> cases c <;> simp_all [fCmp]
 | cons x a ih =>
  cases b with
  | nil => simp [fCmp] at h
  | cons y b =>
   cases c with
   | nil => simp [fCmp] at k
   | cons z c =>
    rw [fCmp] at *
    by_cases h1 : pCmp x y = 0
    ·
     rw [if_pos h1] at h
     rw [(pCmp_zero _ _).1 h1]
     by_cases h2 : pCmp y z = 0
     ·
      rw [if_pos h2] at k ⊢; exact ih h k
     ·
      rw [if_neg h2] at k ⊢; exact k
    ·
     rw [if_neg h1] at h
     by_cases h2 : pCmp y z = 0
     ·
      rw [← (pCmp_zero _ _).1 h2, if_neg h1]; exact h
     ·
      rw [if_neg h2] at k
      have := pCmp_trans h k
      rw [if_neg (by omega)]; exact this
end Go.Proofs.YtjgckfcocmhnhaaGreatDoor.Lb
