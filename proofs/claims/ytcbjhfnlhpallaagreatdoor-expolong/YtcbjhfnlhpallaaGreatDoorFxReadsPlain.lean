/- What the document's own reading comes to: nothing of the program is run here. -/
import Derived.Test.YtcbjhfnlhpallaaGreatDoorFxParse
import Derived.Test.YtcbjhfnlhpallaaGreatDoorFxNum
namespace Go.Proofs.YtcbjhfnlhpallaaGreatDoor.Fx
open Go.RowKit

def gP (m : Bool) (t : List UInt8) : Option (Option Int) := if (fWhole (cutP t).1 && (!(cutP t).2.2 || fDigits (cutP t).2.1 6)) = true then some (sgn m (rd ((cutP t).1 ++ (cutP t).2.1) * 10 ^ (6 - (cutP t).2.1.length))) else none
theorem gP_parse {l : List UInt8} (h : ¬ l = [111, 118, 102]) : fParse l = gP (mns l) (bare l) := by
  unfold fParse okT magT gP
  rw [if_neg h]
theorem cut_digits : ∀ (A R : List UInt8), dgs A = true → cutP (A ++ R) = (A ++ (cutP R).1, (cutP R).2.1, (cutP R).2.2)
  | [], R, _ => rfl
  | c :: A, R, h => by
    have h1 : isDg c = true ∧ dgs A = true := by simpa [dgs] using h
    have hc : ¬ c = 46 := by
      rintro rfl
      exact absurd h1.1 (by decide)
    rw [List.cons_append, cutP, if_neg hc, cut_digits A R h1.2]
    rfl
/-- 1 to 13 digits, no nought ahead of another. -/
def good (k : Nat) (t : List UInt8) : Prop := 1 ≤ k ∧ k ≤ 13 ∧ (k = 1 ∨ t.head? ≠ some 48)
theorem whole_good {t : List UInt8} {k : Nat} (hk : k ≤ t.length) (hd : dgs (t.take k) = true) : fWhole (t.take k) = true ↔ good k t := by
  have hl : (t.take k).length = k := by rw [List.length_take]; omega
  unfold fWhole fDigits good
  rw [hl, hd]
  by_cases h0 : 1 ≤ k
  · have hh : (t.take k).head? = t.head? := by
      cases t with
      | nil => simp
      | cons c r =>
        obtain ⟨j, rfl⟩ : ∃ j, k = j + 1 := ⟨k - 1, by omega⟩
        rfl
    rw [hh]
    simp
    constructor
    · rintro ⟨⟨a, b⟩, c⟩; exact ⟨a, b, c⟩
    · rintro ⟨a, b, c⟩; exact ⟨⟨a, b⟩, c⟩
  · simp [h0]
theorem parts {t : List UInt8} {k : Nat} (hk : k < t.length) : t = t.take k ++ t[k] :: t.drop (k + 1) := by
  rw [← List.drop_eq_getElem_cons hk, List.take_append_drop]
theorem cut_all {t : List UInt8} (hd : dgs t = true) : cutP t = (t, [], false) := by
  have h := cut_digits t [] hd
  rw [List.append_nil] at h
  rw [h]
  simp [cutP]
theorem cut_point {t : List UInt8} {k : Nat} (hk : k < t.length) (hd : dgs (t.take k) = true) (h : t[k] = 46) : cutP t = (t.take k, t.drop (k + 1), true) := by
  have e := parts hk
  rw [h] at e
  have hc := cut_digits (t.take k) (46 :: t.drop (k + 1)) hd
  rw [← e] at hc
  rw [hc]
  simp [cutP]
theorem cut_char {t : List UInt8} {k : Nat} (hk : k < t.length) (hd : dgs (t.take k) = true) (hc : isDg t[k] = false) (h : ¬ t[k] = 46) : fWhole (cutP t).1 = false := by
  have e := parts hk
  have he := cut_digits (t.take k) (t[k] :: t.drop (k + 1)) hd
  rw [← e] at he
  rw [he, cutP, if_neg h]
  unfold fWhole fDigits
  rw [dgs_append]
  have : dgs (t[k] :: (cutP (t.drop (k + 1))).1) = false := by simp [dgs, hc]
  rw [this]
  simp
theorem gP_no {m : Bool} {t : List UInt8} {k : Nat} (hk : k ≤ t.length) (hd : dgs (t.take k) = true) (he : k = t.length ∨ ∃ h : k < t.length, isDg t[k] = false) (hw : ¬ good k t) : gP m t = none := by
  have hf : fWhole (t.take k) = false := by
    cases h : fWhole (t.take k) with
    | false => rfl
    | true => exact absurd ((whole_good hk hd).1 h) hw
  have h0 : fWhole (cutP t).1 = false := by
    rcases he with rfl | ⟨h1, h2⟩
    · rw [List.take_of_length_le (Nat.le_refl _)] at hd hf
      rw [cut_all hd]
      exact hf
    · by_cases h3 : t[k] = 46
      · rw [cut_point h1 hd h3]
        exact hf
      · exact cut_char h1 hd h2 h3
  unfold gP
  rw [h0]
  rfl
theorem gP_all {m : Bool} {t : List UInt8} (hd : dgs t = true) (hw : good t.length t) : gP m t = some (sgn m (rd t * 1000000)) := by
  have h1 : fWhole t = true := by
    have := (whole_good (t := t) (k := t.length) (Nat.le_refl _) (by rw [List.take_of_length_le (Nat.le_refl _)]; exact hd)).2 hw
    rw [List.take_of_length_le (Nat.le_refl _)] at this
    exact this
  unfold gP
  rw [cut_all hd]
  simp [h1]
theorem gP_char {m : Bool} {t : List UInt8} {k : Nat} (hk : k < t.length) (hd : dgs (t.take k) = true) (hc : isDg t[k] = false) (h : ¬ t[k] = 46) : gP m t = none := by
  unfold gP
  rw [cut_char hk hd hc h]
  rfl
theorem gP_bad {m : Bool} {t : List UInt8} {k : Nat} (hk : k < t.length) (hd : dgs (t.take k) = true) (h : t[k] = 46) (hb : fDigits (t.drop (k + 1)) 6 = false) : gP m t = none := by
  unfold gP
  rw [cut_point hk hd h]
  simp [hb]
theorem gP_good {m : Bool} {t : List UInt8} {k : Nat} (hk : k < t.length) (hd : dgs (t.take k) = true) (h : t[k] = 46) (hw : good k t) (hb : fDigits (t.drop (k + 1)) 6 = true) :
    gP m t = some (sgn m (rd (t.take k) * 1000000 + rd (t.drop (k + 1)) * 10 ^ (6 - (t.drop (k + 1)).length))) := by
  have h1 := (whole_good (Nat.le_of_lt hk) hd).2 hw
  have h2 := (digits_of hb).2.1
  have e : rd (t.take k ++ t.drop (k + 1)) * 10 ^ (6 - (t.drop (k + 1)).length) = rd (t.take k) * 1000000 + rd (t.drop (k + 1)) * 10 ^ (6 - (t.drop (k + 1)).length) := by
    rw [rd_append, Nat.add_mul, Nat.mul_assoc, ← Nat.pow_add]
    have : (t.drop (k + 1)).length + (6 - (t.drop (k + 1)).length) = 6 := by omega
    rw [this]
  unfold gP
  rw [cut_point hk hd h]
  simp only [h1, hb, Bool.not_true, Bool.false_or, Bool.and_self, if_true, e]
theorem minus_true {l : List UInt8} (h : 0 < l.length) (h3 : (((⟨l.toArray⟩ : ByteArray)[0]'(ba_lt h)).toNat : Int) = 45) : mns l = true ∧ bare l = l.drop 1 := by
  cases l with
  | nil => cases h
  | cons c r =>
    have h4 : (c.toNat : Int) = 45 := h3
    have h5 : c = 45 := UInt8.toNat_inj.1 (by show c.toNat = 45; omega)
    subst h5
    exact ⟨rfl, rfl⟩
theorem minus_false {l : List UInt8} (h : 0 < l.length) (h3 : ¬ (((⟨l.toArray⟩ : ByteArray)[0]'(ba_lt h)).toNat : Int) = 45) : mns l = false ∧ bare l = l := by
  cases l with
  | nil => cases h
  | cons c r =>
    have h4 : ¬ c = 45 := by
      rintro rfl
      exact h3 rfl
    have h5 : mns (c :: r) = false := by simp [mns, h4]
    exact ⟨h5, by unfold bare; rw [h5]; rfl⟩
theorem minus_nil : mns [] = false ∧ bare [] = [] := ⟨rfl, rfl⟩
end Go.Proofs.YtcbjhfnlhpallaaGreatDoor.Fx
