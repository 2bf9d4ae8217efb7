/- Signs of expressions in plain words: what a text begins with, its signs in order, their print. Nothing of the program is run here. -/
import Derived.Test.YtajbjbnfklllkaaGreatDoorBaseA
import Derived.Test.YtajbjbnfklllkaaGreatDoorBaseF
namespace Go.Proofs.YtajbjbnfklllkaaGreatDoor
open Go.RowKit

structure Tk where
  k : Int
  p : Int
  t : Str
  o : Bool
  n : Int
  d : Int
def tk0 : Tk := ⟨0, 0, [], false, 0, 0⟩
def tIdent (s : Str) : Tk := ⟨1, 0, s, false, 0, 0⟩
def tNum (v : Int) : Tk := ⟨2, 0, [], false, v, 0⟩
def tDur (n : Int) : Tk := ⟨3, 0, [], false, 0, n⟩
def tText (s : Str) : Tk := ⟨4, 0, s, false, 0, 0⟩
def tSign (s : Str) : Tk := ⟨5, 0, s, false, 0, 0⟩
def Tk.put (x : Tk) (p : Int) : Tk := ⟨x.k, p, x.t, x.o, x.n, x.d⟩

/-! ### What a text begins with -/
def blB (c : UInt8) : Bool := [32, 9].contains c
def lead (s : Str) : Str := s.dropWhile blB
def dgN (s : Str) : Nat := (s.takeWhile digB).length
def idN (s : Str) : Nat := (s.takeWhile nameCh).length
def decN (s : Str) : Nat := if s.head? = some 46 then (if dgN s.tail = 0 then 0 else 1 + dgN s.tail) else 0
def duOk (s : Str) : Bool := Fx.fDigits s 3 && (decide (s.length = 1) || decide (s.head? ≠ some 48)) && decide (1 ≤ Fx.rd s) && decide (Fx.rd s ≤ 100)
def tkNum (s : Str) : Option (Tk × Nat) := match Fx.fParse s with
  | some (some v) => some (tNum v, s.length)
  | _ => none
def tkDur (s : Str) : Option (Tk × Nat) := if duOk s = true then some (tDur (Fx.rd s : Nat), s.length + 1) else none
def tkAmt (s : Str) : Option (Tk × Nat) := if (s.drop (dgN s)).head? = some 116 then tkDur (s.take (dgN s)) else tkNum (s.take (dgN s + decN (s.drop (dgN s))))
def tkId (s : Str) : Option (Tk × Nat) := if fName s = true then some (tIdent s, s.length) else none
def tkTx (s : Str) : Option (Tk × Nat) := match qd s.tail with
  | some x => if x.1.length ≤ 30 then some (tText x.1, x.2 + 1) else none
  | none => none
def signs : List Str := [[40], [41], [123], [125], [91], [93], [44], [43], [45], [42], [47], [61], [94, 61], [42, 61], [33, 61], [61, 61], [62], [60], [62, 61], [60, 61]]
def isSg (s : Str) : Bool := signs.contains s
def tkSg (s : Str) : Option (Tk × Nat) := if 2 ≤ s.length ∧ isSg (s.take 2) = true then some (tSign (s.take 2), 2) else if isSg (s.take 1) = true then some (tSign (s.take 1), 1) else none
def tok (s : Str) : Option (Tk × Nat) := if digB (s.headD 0) = true then tkAmt s else if nameCh (s.headD 0) = true then tkId (s.take (idN s)) else if s.headD 0 = 34 then tkTx s else tkSg s

/-! ### Runs -/
theorem lead_cons {c : UInt8} {s : Str} (h : blB c = false) : lead (c :: s) = c :: s := by unfold lead; rw [List.dropWhile_cons_of_neg (by simp [h])]
theorem lead_blank {c : UInt8} {s : Str} (h : blB c = true) : lead (c :: s) = lead s := by unfold lead; rw [List.dropWhile_cons_of_pos h]
theorem lead_le (s : Str) : (lead s).length ≤ s.length := (List.dropWhile_sublist _).length_le
theorem lead_lead (s : Str) : lead (lead s) = lead s := by
  induction s with
  | nil => rfl
  | cons c s ih =>
    cases h : blB c with
    | true => rw [lead_blank h, ih]
    | false => rw [lead_cons h, lead_cons h]
theorem lead_head {s r : Str} {c : UInt8} (h : lead s = c :: r) : blB c = false := by
  induction s with
  | nil => cases h
  | cons a s ih =>
    cases ha : blB a with
    | true => rw [lead_blank ha] at h; exact ih h
    | false => rw [lead_cons ha] at h; injection h with h1 h2; rw [← h1]; exact ha
theorem lead_app {s b : Str} (h : lead s = []) : lead (s ++ b) = lead b := by
  induction s with
  | nil => rfl
  | cons c s ih =>
    cases hc : blB c with
    | true => rw [List.cons_append, lead_blank hc]; rw [lead_blank hc] at h; exact ih h
    | false => rw [lead_cons hc] at h; cases h
theorem lead_app2 {s b r : Str} {c : UInt8} (h : lead s = c :: r) : lead (s ++ b) = (c :: r) ++ b := by
  induction s with
  | nil => cases h
  | cons a s ih =>
    cases ha : blB a with
    | true => rw [List.cons_append, lead_blank ha]; rw [lead_blank ha] at h; exact ih h
    | false => rw [lead_cons ha] at h; rw [← h]; exact lead_cons ha
theorem run_len {p : UInt8 → Bool} {s : Str} {k : Nat} (hk : k ≤ s.length) (h : ∀ i (hi : i < s.length), i < k → p s[i] = true) (he : ∀ (hl : k < s.length), p s[k] = false) : (s.takeWhile p).length = k := by
  induction s generalizing k with
  | nil => simp at hk; subst hk; rfl
  | cons c s ih =>
    cases k with
    | zero =>
      have := he (by simp)
      simp at this
      simp [this]
    | succ k =>
      have h0 := h 0 (by simp) (by omega)
      simp at h0
      rw [List.takeWhile_cons_of_pos h0, List.length_cons, ih (by simpa using hk) (fun i hi hlt => h (i + 1) (by simpa using hi) (by omega)) (fun hl => he (by simpa using hl))]
theorem run_app {p : UInt8 → Bool} {a b : Str} (ha : ∀ x ∈ a, p x = true) (hb : ∀ c r, b = c :: r → p c = false) : (a ++ b).takeWhile p = a := by
  rw [List.takeWhile_append_of_pos ha]
  cases b with
  | nil => simp
  | cons c r => simp [hb c r rfl]
theorem run_all {p : UInt8 → Bool} {s : Str} : ∀ x ∈ s.take (s.takeWhile p).length, p x = true := by
  intro x hx
  have e : s.take (s.takeWhile p).length = s.takeWhile p := by
    have := List.takeWhile_append_dropWhile (p := p) (l := s)
    generalize s.takeWhile p = a at *
    rw [← this]
    simp
  rw [e] at hx
  have := List.all_takeWhile (p := p) (l := s)
  exact List.all_eq_true.1 this x hx
theorem run_le {p : UInt8 → Bool} (s : Str) : (s.takeWhile p).length ≤ s.length := (List.takeWhile_sublist _).length_le
theorem run_next {p : UInt8 → Bool} {s r : Str} {c : UInt8} (h : s.drop (s.takeWhile p).length = c :: r) : p c = false := by
  induction s with
  | nil => cases h
  | cons a s ih =>
    cases ha : p a with
    | true => rw [List.takeWhile_cons_of_pos ha] at h; exact ih (by simpa using h)
    | false =>
      rw [List.takeWhile_cons_of_neg (by simp [ha])] at h
      simp at h
      rw [← h.1]; exact ha
theorem dgN_le (s : Str) : dgN s ≤ s.length := run_le s
theorem idN_le (s : Str) : idN s ≤ s.length := run_le s
theorem decN_le (s : Str) : decN s ≤ s.length := by
  unfold decN
  split
  · split
    · omega
    · have := dgN_le s.tail
      cases s with
      | nil => rename_i h _; cases h
      | cons c s => simp at *; omega
  · omega
/-- A run is the same, whatever stands behind it that is none of it. -/
theorem run_more {p : UInt8 → Bool} (s : Str) {c : UInt8} (b : Str) (h : p c = false) : (s ++ c :: b).takeWhile p = s.takeWhile p := by
  induction s with
  | nil => simp [h]
  | cons a s ih =>
    cases ha : p a with
    | true => rw [List.cons_append, List.takeWhile_cons_of_pos ha, List.takeWhile_cons_of_pos ha, ih]
    | false => rw [List.cons_append, List.takeWhile_cons_of_neg (by simp [ha]), List.takeWhile_cons_of_neg (by simp [ha])]

/-! ### Signs in order -/
theorem scan_dec {c : UInt8} {r : Str} {k : Nat} : (lead (r.drop (k - 1))).length < (c :: r).length := by
  have := lead_le (r.drop (k - 1))
  simp at *
  omega
def push (x : Tk) : Nat ⊕ List Tk → Nat ⊕ List Tk
  | .inl p => .inl p
  | .inr l => .inr (x :: l)
def scanF (n : Nat) : Nat → Str → Nat ⊕ List Tk
  | 0, _ => .inr []
  | _ + 1, [] => .inr []
  | k + 1, c :: r => match tok (c :: r) with
    | none => .inl (n - (c :: r).length)
    | some x => push (x.1.put ((n - (c :: r).length : Nat) : Int)) (scanF n k (lead (r.drop (x.2 - 1))))
theorem scanF_more (n : Nat) : ∀ (k j : Nat) (s : Str), s.length ≤ k → s.length ≤ j → scanF n k s = scanF n j s := by
  intro k
  induction k with
  | zero =>
    intro j s h _
    have h0 : s.length = 0 := by omega
    obtain rfl := List.eq_nil_of_length_eq_zero h0
    cases j <;> rfl
  | succ k ih =>
    intro j s h hj
    cases s with
    | nil => cases j <;> rfl
    | cons c r =>
      cases j with
      | zero => simp at hj
      | succ j =>
        show (match tok (c :: r) with | none => _ | some x => _) = (match tok (c :: r) with | none => _ | some x => _)
        cases tok (c :: r) with
        | none => rfl
        | some x =>
          have d := scan_dec (c := c) (r := r) (k := x.2)
          show push _ _ = push _ _
          rw [ih j (lead (r.drop (x.2 - 1))) (by omega) (by omega)]
def scanG (n : Nat) (s : Str) : Nat ⊕ List Tk := scanF n s.length s
theorem scanG_nil (n : Nat) : scanG n [] = .inr [] := rfl
theorem scanG_none {n : Nat} {s : Str} (hs : s ≠ []) (h : tok s = none) : scanG n s = .inl (n - s.length) := by
  cases s with
  | nil => exact absurd rfl hs
  | cons c r =>
    show (match tok (c :: r) with | none => _ | some x => _) = _
    rw [h]
theorem scanG_some {n : Nat} {s : Str} {x : Tk} {k : Nat} (hs : s ≠ []) (h : tok s = some (x, k)) (hk : 1 ≤ k) : scanG n s = push (x.put ((n - s.length : Nat) : Int)) (scanG n (lead (s.drop k))) := by
  cases s with
  | nil => exact absurd rfl hs
  | cons c r =>
    have d := scan_dec (c := c) (r := r) (k := k)
    show (match tok (c :: r) with | none => _ | some x => _) = _
    rw [h]
    show push _ (scanF n r.length (lead (r.drop (k - 1)))) = _
    obtain ⟨j, rfl⟩ : ∃ j, k = j + 1 := ⟨k - 1, by omega⟩
    rw [scanF_more n r.length _ _ (by simp at d; simpa using by omega) (Nat.le_refl _)]
    rfl
def pre (l : List Tk) : Nat ⊕ List Tk → Nat ⊕ List Tk
  | .inl p => .inl p
  | .inr m => .inr (l ++ m)
theorem pre_nil (x : Nat ⊕ List Tk) : pre [] x = x := by cases x <;> rfl
theorem pre_push (l : List Tk) (x : Tk) (y : Nat ⊕ List Tk) : pre l (push x y) = pre (l ++ [x]) y := by cases y <;> simp [pre, push]
def big (s : Str) : Bool := decide (600 < s.length)
def sc (s : Str) : Nat ⊕ List Tk := scanG s.length (lead s)
def tEnd (n : Nat) : Tk := ⟨0, n, [], false, 0, 0⟩
def scE (s : Str) : Int := if big s = true then 11 else match sc s with
  | .inl _ => 70
  | .inr _ => 0
def scP (s : Str) : Int := if big s = true then 0 else match sc s with
  | .inl p => (p : Nat)
  | .inr _ => 0
def scL (s : Str) : List Tk := if big s = true then [] else match sc s with
  | .inl _ => []
  | .inr l => l ++ [tEnd s.length]
theorem sc_big {s : Str} (h : 600 < s.length) : scE s = 11 ∧ scP s = 0 ∧ scL s = [] := by
  have : big s = true := decide_eq_true h
  unfold scE scP scL
  rw [this]
  exact ⟨rfl, rfl, rfl⟩
theorem sc_bad {s : Str} {p : Nat} (h : ¬ 600 < s.length) (e : sc s = .inl p) : scE s = 70 ∧ scP s = p ∧ scL s = [] := by
  have : big s = false := decide_eq_false h
  unfold scE scP scL
  rw [this, e]
  exact ⟨rfl, rfl, rfl⟩
theorem sc_ok {s : Str} {l : List Tk} (h : ¬ 600 < s.length) (e : sc s = .inr l) : scE s = 0 ∧ scP s = 0 ∧ scL s = l ++ [tEnd s.length] := by
  have : big s = false := decide_eq_false h
  unfold scE scP scL
  rw [this, e]
  exact ⟨rfl, rfl, rfl⟩
end Go.Proofs.YtajbjbnfklllkaaGreatDoor
