/- Whole numbers in digits, durations, numbers and how long they are printed: nothing of the program is run here. -/
import Derived.Test.YtajbjbnfklllkaaGreatDoorXPlain
import Derived.Lib.AtoiAllMem
namespace Go.Proofs.YtajbjbnfklllkaaGreatDoor
open Go.RowKit

theorem dec_snoc {m d : Nat} (hm : 1 ≤ m) (hd : d < 10) : Lib.decDigits (m * 10 + d) = Lib.decDigits m ++ [UInt8.ofNat (48 + d)] := by
  rw [Lib.decDigits, dif_neg (by omega)]
  congr 2
  · congr 1; omega
  · congr 2; omega
theorem isDg_val {c : UInt8} (h : Fx.isDg c = true) : c = UInt8.ofNat (48 + (c.toNat - 48)) ∧ c.toNat - 48 < 10 := by
  unfold Fx.isDg at h
  have h := of_decide_eq_true h
  refine ⟨?_, by omega⟩
  apply UInt8.toNat.inj
  rw [Fx.digit_toNat (by omega)]
  omega
theorem rd_pos : ∀ (l : Str), Fx.dgs l = true → l ≠ [] → l.head? ≠ some 48 → 1 ≤ Fx.rd l := by
  intro l hd hn hh
  cases l with
  | nil => exact absurd rfl hn
  | cons c r =>
    have e : Fx.rd (c :: r) = Fx.rd [c] * 10 ^ r.length + Fx.rd r := by
      have := Fx.rd_append [c] r
      simpa using this
    have hc : Fx.isDg c = true := by
      unfold Fx.dgs at hd
      simp only [List.all_cons, Bool.and_eq_true] at hd
      exact hd.1
    obtain ⟨hc1, hc2⟩ := isDg_val hc
    have h0 : c.toNat - 48 ≠ 0 := fun e0 => by
      rw [e0] at hc1
      exact hh (by simp [hc1])
    have e1 : Fx.rd [c] = c.toNat - 48 := by show 0 * 10 + (c.toNat - 48) = _; omega
    rw [e, e1]
    have : 1 ≤ 10 ^ r.length := Nat.one_le_pow _ _ (by omega)
    have : 1 ≤ (c.toNat - 48) * 10 ^ r.length := Nat.le_trans this (Nat.le_mul_of_pos_left _ (by omega))
    omega
theorem dec_rd : ∀ (n : Nat) (s : Str), s.length = n → Fx.dgs s = true → s ≠ [] → (s.length = 1 ∨ s.head? ≠ some 48) → Lib.decDigits (Fx.rd s) = s := by
  intro n
  induction n with
  | zero => intro s h _ hn; exact absurd (List.length_eq_zero_iff.1 h) hn
  | succ n ih =>
    intro s hl hd hn hh
    obtain ⟨l, c, rfl⟩ : ∃ l c, s = l ++ [c] := ⟨s.dropLast, s.getLast hn, (List.dropLast_concat_getLast hn).symm⟩
    have hd' : Fx.dgs l = true ∧ Fx.isDg c = true := by rw [Fx.dgs_snoc, Bool.and_eq_true] at hd; exact hd
    obtain ⟨hc1, hc2⟩ := isDg_val hd'.2
    rw [Fx.rd_snoc]
    by_cases he : l = []
    · subst he
      show Lib.decDigits (0 * 10 + _) = _
      rw [Nat.zero_mul, Nat.zero_add, Lib.decDigits_one hc2, ← hc1]
      rfl
    · have hh' : l.head? ≠ some 48 := by
        rcases hh with hh | hh
        · exact absurd (List.length_eq_zero_iff.1 (by simpa using hh)) he
        · cases l with
          | nil => exact absurd rfl he
          | cons a l => simpa using hh
      rw [dec_snoc (rd_pos l hd'.1 he hh') hc2, ih l (by simpa using hl) hd'.1 he (Or.inr hh'), ← hc1]
theorem parse10 : ∀ (l : Str) (acc : Nat), Fx.dgs l = true → (acc + 1) * 10 ^ l.length ≤ 1000000000000000000 → Lib.parseUint10 acc l = .ok (acc * 10 ^ l.length + Fx.rd l)
  | [], acc, _, _ => by simp [Lib.parseUint10, Fx.rd]
  | c :: r, acc, hd, hb => by
    have hd' : Fx.isDg c = true ∧ Fx.dgs r = true := by
      unfold Fx.dgs at hd ⊢
      simpa only [List.all_cons, Bool.and_eq_true] using hd
    have hc := hd'.1
    unfold Fx.isDg at hc
    have hc := of_decide_eq_true hc
    have hp : 1 ≤ 10 ^ r.length := Nat.one_le_pow _ _ (by omega)
    have e10 : 10 ^ (c :: r).length = 10 * 10 ^ r.length := by rw [List.length_cons, Nat.pow_succ]; omega
    rw [e10] at hb
    have hb1 : (acc + 1) * 10 * 10 ^ r.length ≤ 1000000000000000000 := by rw [Nat.mul_assoc]; exact hb
    have hb2 : (acc + 1) * 10 ≤ 1000000000000000000 := Nat.le_trans (Nat.le_mul_of_pos_right _ hp) hb1
    have hb3 : (acc * 10 + (c.toNat - 48) + 1) * 10 ^ r.length ≤ 1000000000000000000 := Nat.le_trans (Nat.mul_le_mul_right _ (by omega)) hb1
    rw [Lib.parseUint10, if_pos (by omega), if_neg (by omega), if_neg (by omega), parse10 r _ hd'.2 hb3, e10]
    have e1 : Fx.rd (c :: r) = Fx.rd [c] * 10 ^ r.length + Fx.rd r := by
      have := Fx.rd_append [c] r
      simpa using this
    have e2 : Fx.rd [c] = c.toNat - 48 := by show 0 * 10 + (c.toNat - 48) = _; omega
    rw [e1, e2, Nat.add_mul, Nat.mul_assoc]
    congr 1
    omega
theorem duOk_of {s : Str} (h : duOk s = true) : 1 ≤ s.length ∧ s.length ≤ 3 ∧ Fx.dgs s = true ∧ (s.length = 1 ∨ s.head? ≠ some 48) ∧ 1 ≤ Fx.rd s ∧ Fx.rd s ≤ 100 := by
  unfold duOk at h
  rw [Bool.and_eq_true, Bool.and_eq_true, Bool.and_eq_true, Bool.or_eq_true, decide_eq_true_iff, decide_eq_true_iff, decide_eq_true_iff, decide_eq_true_iff] at h
  obtain ⟨⟨⟨h0, h4⟩, h5⟩, h6⟩ := h
  obtain ⟨h1, h2, h3⟩ := Fx.digits_of h0
  exact ⟨h1, h2, h3, h4, h5, h6⟩
theorem duOk_to {s : Str} (h1 : 1 ≤ s.length) (h2 : s.length ≤ 3) (h3 : Fx.dgs s = true) (h4 : s.length = 1 ∨ s.head? ≠ some 48) (h5 : 1 ≤ Fx.rd s) (h6 : Fx.rd s ≤ 100) : duOk s = true := by
  unfold duOk
  rw [Bool.and_eq_true, Bool.and_eq_true, Bool.and_eq_true, Bool.or_eq_true, decide_eq_true_iff, decide_eq_true_iff, decide_eq_true_iff, decide_eq_true_iff]
  refine ⟨⟨⟨?_, h4⟩, h5⟩, h6⟩
  unfold Fx.fDigits
  rw [decide_eq_true h1, decide_eq_true h2, h3]
  rfl
theorem atoi_du {s : Str} (h : duOk s = true) : Lib.atoiAll s = .ok (Fx.rd s : Int) ∧ Lib.itoa (Fx.rd s : Int) = s := by
  obtain ⟨l1, l2, hd, hh, h5, h6⟩ := duOk_of h
  have hne : s ≠ [] := fun e => by subst e; simp at l1
  refine ⟨?_, by rw [Lib.itoa_nonneg]; exact dec_rd _ s rfl hd hne hh⟩
  have hp : Lib.parseMag s = .ok (Fx.rd s) := by
    unfold Lib.parseMag
    rw [if_neg hne, parse10 s 0 hd (by
      have : 10 ^ s.length ≤ 10 ^ 3 := Nat.pow_le_pow_right (by omega) l2
      omega)]
    simp
  cases s with
  | nil => exact absurd rfl hne
  | cons c r =>
    have hc : Fx.isDg c = true := by
      unfold Fx.dgs at hd
      simp only [List.all_cons, Bool.and_eq_true] at hd
      exact hd.1
    unfold Fx.isDg at hc
    have hc := of_decide_eq_true hc
    unfold Lib.atoiAll
    simp only
    rw [if_neg (by omega), hp]
    simp only
    rw [if_neg (by omega), if_neg (by omega), if_neg (by omega)]
theorem du_dec {u : Nat} (h0 : 1 ≤ u) (h1 : u ≤ 100) : duOk (Lib.decDigits u) = true := by
  have hl : (Lib.decDigits u).length ≤ 3 := Fx.dec_le 2 u (by omega)
  refine duOk_to ?_ hl (Fx.dgs_dec u) (Or.inr (Fx.head_dec h0)) (by rw [Fx.rd_dec]; exact h0) (by rw [Fx.rd_dec]; exact h1)
  cases h : Lib.decDigits u with
  | nil => exact absurd h (Fx.dec_ne u)
  | cons c r => simp
theorem du_atoi {s : Str} {v : Int} (hp : Lib.itoa v = s) (h0 : 1 ≤ v) (h1 : v ≤ 100) : duOk s = true ∧ (Fx.rd s : Int) = v := by
  obtain ⟨u, rfl⟩ : ∃ u : Nat, v = u := ⟨v.toNat, by omega⟩
  rw [Lib.itoa_nonneg] at hp
  subst hp
  exact ⟨du_dec (by omega) (by omega), by rw [Fx.rd_dec]⟩
/-- What is no duration: no number of ticks is told as these digits. -/
theorem du_no {s : Str} (h : duOk s = false) {v : Int} (hp : Lib.itoa v = s) : v < 1 ∨ 100 < v := by
  by_cases h0 : 1 ≤ v
  · by_cases h1 : v ≤ 100
    · rw [(du_atoi hp h0 h1).1] at h; cases h
    · omega
  · omega

/-! ### How long a number is printed -/
theorem frac_le {r j x : Nat} (h : r < 1000000) (hj : j ≤ 6) (e : r = x * 10 ^ (6 - j)) : (Fx.fracT r).length ≤ j := by
  obtain ⟨f1, f2, f3, f4⟩ := Fx.frac_facts h
  by_cases hle : (Fx.fracT r).length ≤ j
  · exact hle
  exfalso
  generalize Fx.fracT r = F at *
  have hne : F ≠ [] := fun e => by subst e; simp at hle
  obtain ⟨l, c, rfl⟩ : ∃ l c, F = l ++ [c] := ⟨F.dropLast, F.getLast hne, (List.dropLast_concat_getLast hne).symm⟩
  rw [Fx.dgs_snoc, Bool.and_eq_true] at f1
  obtain ⟨hc1, hc2⟩ := isDg_val f1.2
  rw [Fx.rd_snoc] at f3
  have hl : (l ++ [c]).length = l.length + 1 := by simp
  rw [hl] at f2 f3 hle
  have hp : 10 ^ (6 - j) = 10 ^ (6 - (l.length + 1)) * 10 ^ (l.length + 1 - j) := by rw [← Nat.pow_add]; congr 1; omega
  rw [e, hp, Nat.mul_comm (10 ^ (6 - (l.length + 1))), ← Nat.mul_assoc] at f3
  have hpos : 0 < 10 ^ (6 - (l.length + 1)) := Nat.pow_pos (by omega)
  have f3 := Nat.eq_of_mul_eq_mul_right hpos f3
  have h10 : 10 ^ (l.length + 1 - j) = 10 * 10 ^ (l.length - j) := by
    rw [show l.length + 1 - j = (l.length - j) + 1 by omega, Nat.pow_succ, Nat.mul_comm]
  rw [h10, ← Nat.mul_assoc, Nat.mul_comm x 10, Nat.mul_assoc] at f3
  have h0 : c.toNat - 48 = 0 := by omega
  rw [h0] at hc1
  apply f4
  rw [hc1]
  simp
theorem num_facts {s : Str} {v : Int} (hd : digB (s.headD 0) = true) (h : Fx.fParse s = some (some v)) : 0 ≤ v ∧ v ≤ 9223372036854775807 ∧ (Fx.fPrint (some v)).length ≤ s.length := by
  cases s with
  | nil => exact absurd hd (by decide)
  | cons c r =>
    have hc : digB c = true := hd
    have c1 : c ≠ 111 := fun e => by subst e; exact absurd hc (by decide)
    have c2 : c ≠ 45 := fun e => by subst e; exact absurd hc (by decide)
    rw [Fx.gP_parse (by simp [c1])] at h
    have e1 : Fx.mns (c :: r) = false := by simp [Fx.mns, c2]
    have e2 : Fx.bare (c :: r) = c :: r := by unfold Fx.bare; rw [e1]; rfl
    rw [e1, e2] at h
    generalize c :: r = s at *
    clear e1 e2
    unfold Fx.gP at h
    split at h
    · rename_i hok
      rw [Bool.and_eq_true] at hok
      obtain ⟨hw, hdd⟩ := hok
      injection h with h
      have hwd : 1 ≤ (Fx.cutP s).1.length ∧ (Fx.cutP s).1.length ≤ 13 ∧ Fx.dgs (Fx.cutP s).1 = true := Fx.whole_of hw
      have hwh : (Fx.cutP s).1.length = 1 ∨ (Fx.cutP s).1.head? ≠ some 48 := by
        unfold Fx.fWhole at hw
        rw [Bool.and_eq_true, Bool.or_eq_true, decide_eq_true_iff, decide_eq_true_iff] at hw
        exact hw.2
      have hne : (Fx.cutP s).1 ≠ [] := fun e => by rw [e] at hwd; simp at hwd
      have hdec := dec_rd _ (Fx.cutP s).1 rfl hwd.2.2 hne hwh
      have fin : ∀ m : Nat, Fx.sgn false m = some v → m ≤ 9223372036854775807 ∧ v = m := fun m hm => by
        unfold Fx.sgn at hm
        split at hm
        · cases hm
        · injection hm with hm
          exact ⟨by omega, by rw [← hm]; rfl⟩
      obtain ⟨hm, rfl⟩ := fin _ h
      clear fin h
      have hpr : ∀ m : Nat, Fx.fPrint (some (m : Int)) = Fx.prU m := fun m => by
        show (if (m : Int) < 0 then [45] else []) ++ Fx.prU (m : Int).natAbs = _
        rw [if_neg (by omega)]
        simp
      refine ⟨by omega, by omega, ?_⟩
      rw [hpr]
      rcases Fx.cut_index s with ⟨ec, _⟩ | ⟨i, hi, _, ec⟩
      · rw [ec] at hdec hm ⊢
        simp only [List.append_nil, List.length_nil, Nat.sub_zero] at hm ⊢ hdec
        unfold Fx.prU
        have e3 : Fx.rd s * 10 ^ 6 / 1000000 = Fx.rd s := by omega
        have e4 : Fx.rd s * 10 ^ 6 % 1000000 = 0 := by omega
        rw [e3, e4, hdec]
        simp
      · rw [ec] at hdec hm hwd hdd ⊢
        simp only [Bool.not_true, Bool.false_or] at hdd
        simp only at hm hdec hwd ⊢
        obtain ⟨d1, d2, d3⟩ := Fx.digits_of hdd
        have hle := Fx.rd_lt (s.drop (i + 1)).length (s.drop (i + 1)) d3 (Nat.le_refl _)
        rw [List.take_of_length_le (Nat.le_refl _)] at hle
        have hsl : s.length = i + 1 + (s.drop (i + 1)).length := by simp; omega
        have htl : (s.take i).length = i := by simp; omega
        rw [Fx.rd_append, Nat.add_mul, Nat.mul_assoc, ← Nat.pow_add, show (s.drop (i + 1)).length + (6 - (s.drop (i + 1)).length) = 6 by omega]
        generalize s.drop (i + 1) = D at *
        have hx : Fx.rd D * 10 ^ (6 - D.length) < 1000000 := by
          have : Fx.rd D * 10 ^ (6 - D.length) < 10 ^ D.length * 10 ^ (6 - D.length) := Nat.mul_lt_mul_of_pos_right hle (Nat.pow_pos (by omega))
          rw [← Nat.pow_add, show D.length + (6 - D.length) = 6 by omega] at this
          exact this
        have hf := frac_le hx d2 rfl
        generalize Fx.rd D * 10 ^ (6 - D.length) = X at *
        unfold Fx.prU
        have e3 : (Fx.rd (s.take i) * 10 ^ 6 + X) / 1000000 = Fx.rd (s.take i) := by omega
        have e4 : (Fx.rd (s.take i) * 10 ^ 6 + X) % 1000000 = X := by omega
        rw [e3, e4, hdec, List.length_append, htl]
        split
        · simp; omega
        · simp; omega
    · cases h
end Go.Proofs.YtajbjbnfklllkaaGreatDoor
