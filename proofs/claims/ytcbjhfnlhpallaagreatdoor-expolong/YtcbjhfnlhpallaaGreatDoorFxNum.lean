/- Numerals: what decimal digits tell: nothing of the program's text. -/
import Derived.Test.YtcbjhfnlhpallaaGreatDoorFxDig
namespace Go.Proofs.YtcbjhfnlhpallaaGreatDoor.Fx

theorem rd_append (x y : List UInt8) : rd (x ++ y) = rd x * 10 ^ y.length + rd y := by
  have key : ∀ (y : List UInt8) (a : Nat), y.foldl (fun n c => n * 10 + (c.toNat - 48)) a = a * 10 ^ y.length + rd y := by
    intro y
    induction y with
    | nil => intro a; simp [rd]
    | cons c y ih =>
      intro a
      rw [List.foldl_cons, ih]
      have e : rd (c :: y) = (c.toNat - 48) * 10 ^ y.length + rd y := by
        show (c :: y).foldl _ 0 = _
        rw [List.foldl_cons, ih]
        simp
      rw [e, List.length_cons, Nat.pow_succ, Nat.add_mul, Nat.mul_assoc, Nat.mul_comm 10]
      omega
  unfold rd
  rw [List.foldl_append]
  exact key y _
theorem digit_toNat {k : Nat} (h : k < 10) : (UInt8.ofNat (48 + k)).toNat = 48 + k := by
  rw [UInt8.toNat_ofNat']
  omega
theorem rd_one {k : Nat} (h : k < 10) : rd [UInt8.ofNat (48 + k)] = k := by
  show 0 * 10 + ((UInt8.ofNat (48 + k)).toNat - 48) = k
  rw [digit_toNat h]
  omega
theorem isDg_digit {k : Nat} (h : k < 10) : isDg (UInt8.ofNat (48 + k)) = true := by
  unfold isDg
  rw [digit_toNat h]
  exact decide_eq_true (by omega)
theorem dec_facts : ∀ (f u : Nat), u < f → rd (Lib.decDigits u) = u ∧ dgs (Lib.decDigits u) = true ∧ (1 ≤ u → (Lib.decDigits u).head? ≠ some 48) ∧ Lib.decDigits u ≠ []
  | 0, u, h => by omega
  | f + 1, u, h => by
    by_cases hu : u < 10
    · rw [Lib.decDigits_one hu]
      refine ⟨rd_one hu, by unfold dgs; simp only [List.all_cons, List.all_nil, Bool.and_true]; exact isDg_digit hu, fun h1 e => ?_, by simp⟩
      have e2 : UInt8.ofNat (48 + u) = 48 := by simpa using e
      have := digit_toNat hu
      rw [e2] at this
      have : (48 : UInt8).toNat = 48 := rfl
      omega
    · obtain ⟨h1, h2, h3, h4⟩ := dec_facts f (u / 10) (by omega)
      have e : Lib.decDigits u = Lib.decDigits (u / 10) ++ [UInt8.ofNat (48 + u % 10)] := by rw [Lib.decDigits, dif_neg hu]
      rw [e]
      refine ⟨?_, ?_, fun _ => ?_, by simp⟩
      · rw [rd_append, h1, rd_one (by omega)]
        simp
        omega
      · rw [dgs_append, h2]
        unfold dgs
        simp only [List.all_cons, List.all_nil, Bool.and_true, Bool.true_and]
        exact isDg_digit (by omega)
      · have h5 := h3 (by omega)
        cases hl : Lib.decDigits (u / 10) with
        | nil => exact (h4 hl).elim
        | cons c r =>
          rw [hl] at h5
          simpa using h5
theorem rd_dec (u : Nat) : rd (Lib.decDigits u) = u := (dec_facts (u + 1) u (by omega)).1
theorem dgs_dec (u : Nat) : dgs (Lib.decDigits u) = true := (dec_facts (u + 1) u (by omega)).2.1
theorem head_dec {u : Nat} (h : 1 ≤ u) : (Lib.decDigits u).head? ≠ some 48 := (dec_facts (u + 1) u (by omega)).2.2.1 h
theorem dec_ne (u : Nat) : Lib.decDigits u ≠ [] := (dec_facts (u + 1) u (by omega)).2.2.2
theorem dec_len {u k : Nat} (h1 : 10 ^ k ≤ u) (h2 : u < 10 ^ (k + 1)) : (Lib.decDigits u).length = k + 1 := by
  rw [Lib.decDigits_length]
  exact Lib.nDigits_unique k u h1 h2

/-- The six digits behind the point. -/
theorem six {r : Nat} (h : r < 1000000) : ∃ l : List UInt8, Lib.decDigits (1000000 + r) = 49 :: l ∧ l.length = 6 ∧ dgs l = true ∧ rd l = r := by
  have hlen := dec_len (u := 1000000 + r) (k := 6) (by omega) (by omega)
  have hrd := rd_dec (1000000 + r)
  have hdg := dgs_dec (1000000 + r)
  cases hl : Lib.decDigits (1000000 + r) with
  | nil => exact (dec_ne _ hl).elim
  | cons c l =>
    rw [hl] at hlen hrd hdg
    have hll : l.length = 6 := by simpa using hlen
    have hd2 : isDg c = true ∧ dgs l = true := by
      unfold dgs at *
      simpa using hdg
    have e : rd (c :: l) = (c.toNat - 48) * 10 ^ 6 + rd l := by
      have := rd_append [c] l
      rw [hll] at this
      have e1 : rd [c] = c.toNat - 48 := by simp [rd]
      rw [e1] at this
      exact this
    have hlt : rd l < 1000000 := by
      have := rd_lt 6 l hd2.2 (by omega)
      rw [List.take_of_length_le (by omega)] at this
      exact this
    have hc := hd2.1
    unfold isDg at hc
    have hc2 := of_decide_eq_true hc
    have e3 : (10 : Nat) ^ 6 = 1000000 := by decide
    rw [e3] at e
    have hc1 : c.toNat - 48 = 1 := by omega
    have hcc : c = 49 := UInt8.toNat_inj.1 (by show c.toNat = 49; omega)
    rw [hcc]
    exact ⟨l, rfl, hll, hd2.2, by omega⟩

theorem trim_split (l : List UInt8) : ∃ k, l = Lib.trimRightB l 48 ++ List.replicate k 48 := by
  unfold Lib.trimRightB
  have key : ∀ m : List UInt8, ∃ k, m = List.replicate k 48 ++ m.dropWhile (· == 48) := by
    intro m
    induction m with
    | nil => exact ⟨0, rfl⟩
    | cons c m ih =>
      by_cases h : c = 48
      · obtain ⟨k, e⟩ := ih
        refine ⟨k + 1, ?_⟩
        subst h
        simp [List.replicate_succ]
        exact e
      · refine ⟨0, ?_⟩
        simp [h]
  obtain ⟨k, e⟩ := key l.reverse
  refine ⟨k, ?_⟩
  have := congrArg List.reverse e
  rw [List.reverse_reverse, List.reverse_append, List.reverse_replicate] at this
  exact this
theorem rd_noughts (k : Nat) : rd (List.replicate k 48) = 0 := by
  induction k with
  | zero => rfl
  | succ k ih =>
    rw [List.replicate_succ', rd_append, ih]
    simp [rd]
theorem trim_last (l : List UInt8) : (Lib.trimRightB l 48).getLast? ≠ some 48 := by
  unfold Lib.trimRightB
  rw [List.getLast?_reverse]
  intro h
  have := List.head?_dropWhile_not (· == (48 : UInt8)) l.reverse
  rw [h] at this
  simp at this
theorem trim_id {l : List UInt8} (h : l.getLast? ≠ some 48) : Lib.trimRightB l 48 = l := by
  unfold Lib.trimRightB
  have : l.reverse.dropWhile (· == 48) = l.reverse := by
    rw [← List.head?_reverse] at h
    cases hr : l.reverse with
    | nil => rfl
    | cons c r =>
      rw [hr] at h
      have : ¬ c = 48 := by simpa using h
      simp [this]
  rw [this, List.reverse_reverse]
theorem trim_snoc (l : List UInt8) : Lib.trimRightB (l ++ [48]) 48 = Lib.trimRightB l 48 := by
  unfold Lib.trimRightB
  simp

/-- The text of a part: its digits, no nought at the end. -/
theorem frac_facts {r : Nat} (h : r < 1000000) : dgs (fracT r) = true ∧ (fracT r).length ≤ 6 ∧ rd (fracT r) * 10 ^ (6 - (fracT r).length) = r ∧ (fracT r).getLast? ≠ some 48 := by
  obtain ⟨l, e, h6, hd, hr⟩ := six h
  unfold fracT
  rw [e]
  have et : (49 :: l).tail = l := rfl
  rw [et]
  obtain ⟨k, hk⟩ := trim_split l
  have hlast := trim_last l
  generalize Lib.trimRightB l 48 = t at *
  have hlen : t.length + k = 6 := by
    have := congrArg List.length hk
    rw [List.length_append, List.length_replicate] at this
    omega
  refine ⟨?_, by omega, ?_, hlast⟩
  · rw [hk, dgs_append] at hd
    simp at hd
    exact hd.1
  · rw [hk, rd_append, rd_noughts, List.length_replicate] at hr
    have : 6 - t.length = k := by omega
    rw [this]
    omega
theorem frac_zero : fracT 0 = [] := by
  have : Lib.decDigits 1000000 = [49, 48, 48, 48, 48, 48, 48] := by simp [Lib.decDigits]
  unfold fracT
  rw [this]
  decide +kernel
theorem frac_ne {r : Nat} (h : r < 1000000) (h0 : ¬ r = 0) : fracT r ≠ [] := by
  intro e
  obtain ⟨_, _, hr, _⟩ := frac_facts h
  rw [e] at hr
  simp [rd] at hr
  exact h0 hr.symm
end Go.Proofs.YtcbjhfnlhpallaaGreatDoor.Fx
