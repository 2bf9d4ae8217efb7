/- What is printed is read as the same: nothing of the program is run here. -/
import Derived.Test.YtcbjhfnlhpallaaGreatDoorFxReadsPlain
namespace Go.Proofs.YtcbjhfnlhpallaaGreatDoor.Fx
open Go.RowKit

theorem dec_le : ∀ (n u : Nat), u < 10 ^ (n + 1) → (Lib.decDigits u).length ≤ n + 1
  | 0, u, h => by
    by_cases h1 : 1 ≤ u
    · rw [dec_len (k := 0) (by simpa using h1) (by simpa using h)]
      omega
    · have : u = 0 := by omega
      subst this
      simp [Lib.decDigits]
  | n + 1, u, h => by
    by_cases h1 : u < 10 ^ (n + 1)
    · have := dec_le n u h1
      omega
    · rw [dec_len (k := n + 1) (by omega) h]
      omega
theorem dec_le13 {u : Nat} (h : u < 10000000000000) : (Lib.decDigits u).length ≤ 13 := dec_le 12 u h
theorem dec_head (u : Nat) : ∃ c r, Lib.decDigits u = c :: r ∧ isDg c = true ∧ dgs r = true := by
  have hd := dgs_dec u
  cases h : Lib.decDigits u with
  | nil => exact (dec_ne u h).elim
  | cons c r =>
    rw [h] at hd
    have : isDg c = true ∧ dgs r = true := by
      unfold dgs at *
      simpa using hd
    exact ⟨c, r, rfl, this.1, this.2⟩
theorem dec_good {u : Nat} (h : u < 10000000000000) (R : List UInt8) : good (Lib.decDigits u).length (Lib.decDigits u ++ R) := by
  obtain ⟨c, r, e, hc, hr⟩ := dec_head u
  refine ⟨by rw [e]; simp, dec_le13 h, ?_⟩
  by_cases h1 : 1 ≤ u
  · right
    have := head_dec h1
    rw [e] at this ⊢
    exact this
  · left
    have : u = 0 := by omega
    subst this
    simp [Lib.decDigits]
theorem digit_lead {c : UInt8} (h : isDg c = true) : ¬ c = 45 ∧ ¬ c = 46 ∧ ¬ c = 111 := by
  refine ⟨?_, ?_, ?_⟩
  · rintro rfl; exact absurd h (by decide)
  · rintro rfl; exact absurd h (by decide)
  · rintro rfl; exact absurd h (by decide)
theorem prU_head (m : Nat) : ∃ c r, prU m = c :: r ∧ isDg c = true := by
  obtain ⟨c, r, e, hc, hr⟩ := dec_head (m / 1000000)
  unfold prU
  rw [e]
  exact ⟨c, _, rfl, hc⟩
theorem gP_print {b : Bool} {m : Nat} (hm : m ≤ 9223372036854775807) : gP b (prU m) = some (sgn b m) := by
  have hq : m / 1000000 < 10000000000000 := by omega
  have hr : m % 1000000 < 1000000 := Nat.mod_lt _ (by omega)
  have hdm := Nat.div_add_mod m 1000000
  have hg := dec_good hq
  have hd := dgs_dec (m / 1000000)
  have hrd := rd_dec (m / 1000000)
  obtain ⟨f1, f2, f3, f4⟩ := frac_facts hr
  unfold prU
  by_cases h0 : m % 1000000 = 0
  · rw [if_pos h0, List.append_nil, gP_all hd (by have := hg []; rw [List.append_nil] at this; exact this), hrd]
    have : m / 1000000 * 1000000 = m := by omega
    rw [this]
  · rw [if_neg h0]
    have hne := frac_ne hr h0
    generalize fracT (m % 1000000) = F at *
    generalize Lib.decDigits (m / 1000000) = D at *
    have hk : D.length < (D ++ 46 :: F).length := by simp
    have e1 : (D ++ 46 :: F).take D.length = D := by simp
    have e2 : (D ++ 46 :: F)[D.length] = 46 := by simp
    have e3 : (D ++ 46 :: F).drop (D.length + 1) = F := by simp
    have h1 : 1 ≤ F.length := by
      cases F with
      | nil => exact (hne rfl).elim
      | cons c r => simp
    have hF : fDigits F 6 = true := by
      unfold fDigits
      rw [decide_eq_true h1, decide_eq_true f2, f1]
      rfl
    rw [gP_good hk (by rw [e1]; exact hd) e2 (hg _) (by rw [e3]; exact hF), e1, e3, f3, hrd]
    have : m / 1000000 * 1000000 + m % 1000000 = m := by omega
    rw [this]
/-- P2.4. -/
theorem print_read {x : Option Int} (h : V x) : fParse (fPrint x) = some x := by
  cases x with
  | none => rfl
  | some n =>
    have h1 : -9223372036854775807 ≤ n := h.1
    have h2 : n ≤ 9223372036854775807 := h.2
    have hm : n.natAbs ≤ 9223372036854775807 := by omega
    obtain ⟨c, r, e, hc⟩ := prU_head n.natAbs
    obtain ⟨d1, d2, d3⟩ := digit_lead hc
    have hg := fun b => gP_print (b := b) hm
    show fParse ((if n < 0 then [45] else []) ++ prU n.natAbs) = _
    by_cases hn : n < 0
    · rw [if_pos hn, gP_parse (by simp)]
      have e1 : mns ([45] ++ prU n.natAbs) = true := by simp [mns]
      have e2 : bare ([45] ++ prU n.natAbs) = prU n.natAbs := by unfold bare; rw [e1]; rfl
      rw [e1, e2, hg]
      unfold sgn
      rw [if_neg (by omega)]
      simp
      omega
    · rw [if_neg hn, List.nil_append, gP_parse (by rw [e]; simp [d3])]
      have e1 : mns (prU n.natAbs) = false := by rw [e]; simp [mns, d1]
      have e2 : bare (prU n.natAbs) = prU n.natAbs := by unfold bare; rw [e1]; rfl
      rw [e1, e2, hg]
      unfold sgn
      rw [if_neg (by omega)]
      simp
      omega
theorem print_len {x : Option Int} (h : V x) : (fPrint x).length ≤ 1000 := by
  cases x with
  | none => show 3 ≤ 1000; omega
  | some n =>
    have h1 : -9223372036854775807 ≤ n := h.1
    have h2 : n ≤ 9223372036854775807 := h.2
    have hr : n.natAbs % 1000000 < 1000000 := Nat.mod_lt _ (by omega)
    have l1 := dec_le13 (u := n.natAbs / 1000000) (by omega)
    have l2 := (frac_facts hr).2.1
    show ((if n < 0 then [45] else []) ++ prU n.natAbs).length ≤ 1000
    unfold prU
    rw [List.length_append, List.length_append]
    have l3 : (if n < 0 then [45] else ([] : List UInt8)).length ≤ 1 := by split <;> simp
    have l4 : (if n.natAbs % 1000000 = 0 then [] else 46 :: fracT (n.natAbs % 1000000)).length ≤ 7 := by
      split
      · simp
      · simp; omega
    omega
end Go.Proofs.YtcbjhfnlhpallaaGreatDoor.Fx
