/- A number's text with a nought behind it, ahead of it: nothing of the program is run here. -/
import Derived.Test.YtibdlcegmepbcabDoorPrintRead
import Derived.Test.YtibdlcegmepbcabDoorAlg
namespace Go.Proofs.YtibdlcegmepbcabDoor
open Go.RowKit

/-- The number of a text. -/
def vOf (b : Bool) (W r : Nat) : Int := if b = true then -((W * 1000000 + r : Nat) : Int) else ((W * 1000000 + r : Nat) : Int)
theorem vOf_abs (b : Bool) (W r : Nat) : (vOf b W r).natAbs = W * 1000000 + r := by
  unfold vOf
  split <;> omega
theorem vOf_range (b : Bool) {W r : Nat} (hW : W < 4294967296) (hr : r < 1000000) : -4294967296000000 ≤ vOf b W r ∧ vOf b W r ≤ 4294967296000000 := by
  unfold vOf
  split <;> omega
theorem vOf_V (b : Bool) {W r : Nat} (hW : W < 4294967296) (hr : r < 1000000) : V (some (vOf b W r)) := by
  have := vOf_range b hW hr
  exact ⟨by show _ ≤ vOf b W r; omega, by show vOf b W r ≤ _; omega⟩
def uT (W r : Nat) : List UInt8 := Lib.decDigits W ++ (if r = 0 then [] else 46 :: fracT r)
theorem text_is (b : Bool) {W r : Nat} (hr : r < 1000000) : fPrint (some (vOf b W r)) = (if vOf b W r < 0 then [45] else []) ++ uT W r := by
  show (if vOf b W r < 0 then [45] else []) ++ prU (vOf b W r).natAbs = _
  rw [vOf_abs]
  unfold prU uT
  have e1 : (W * 1000000 + r) / 1000000 = W := by omega
  have e2 : (W * 1000000 + r) % 1000000 = r := by omega
  rw [e1, e2]
theorem sgn_v {b : Bool} {W r : Nat} (hW : W < 4294967296) (hr : r < 1000000) : sgn (decide (vOf b W r < 0)) (W * 1000000 + r) = some (vOf b W r) := by
  have h1 := vOf_abs b W r
  have h2 := vOf_range b hW hr
  unfold sgn
  rw [if_neg (by omega)]
  by_cases h : vOf b W r < 0
  · rw [decide_eq_true h, if_pos rfl]
    exact congrArg some (by omega)
  · rw [decide_eq_false h, if_neg (by decide)]
    exact congrArg some (by omega)
theorem sgn_v10 {b : Bool} {W r : Nat} (hW : W < 4294967296) (hr : r < 1000000) : sgn (decide (vOf b W r < 0)) ((W * 1000000 + r) * 10) = some (vOf b W r * 10) := by
  have h1 := vOf_abs b W r
  have h2 := vOf_range b hW hr
  unfold sgn
  rw [if_neg (by omega)]
  by_cases h : vOf b W r < 0
  · rw [decide_eq_true h, if_pos rfl]
    exact congrArg some (by omega)
  · rw [decide_eq_false h, if_neg (by decide)]
    exact congrArg some (by omega)
theorem dec_le10 {W : Nat} (hW : W < 4294967296) : (Lib.decDigits W).length ≤ 10 := dec_le 9 W (by omega)
theorem uT_head (W r : Nat) : ∃ c s, uT W r = c :: s ∧ isDg c = true := by
  obtain ⟨c, s, e, hc, _⟩ := dec_head W
  unfold uT
  rw [e]
  exact ⟨c, _, rfl, hc⟩
/-- The sign goes its own way. -/
theorem parse_sign {v : Int} {U : List UInt8} {c : UInt8} {s : List UInt8} (e : U = c :: s) (hc : isDg c = true) : fParse ((if v < 0 then [45] else []) ++ U) = gP (decide (v < 0)) U := by
  obtain ⟨d1, d2, d3⟩ := digit_lead hc
  subst e
  by_cases h : v < 0
  · rw [if_pos h, decide_eq_true h, gP_parse (by simp)]
    have e1 : mns ([45] ++ c :: s) = true := by simp [mns]
    have e2 : bare ([45] ++ c :: s) = c :: s := by unfold bare; rw [e1]; rfl
    rw [e1, e2]
  · rw [if_neg h, decide_eq_false h, List.nil_append, gP_parse (by simp [d3])]
    have e1 : mns (c :: s) = false := by simp [mns, d1]
    have e2 : bare (c :: s) = c :: s := by unfold bare; rw [e1]; rfl
    rw [e1, e2]
theorem dec0 : Lib.decDigits 0 = [48] := by simp [Lib.decDigits]
theorem dgs48 : dgs [48] = true := by decide
theorem behind (b : Bool) {W r : Nat} (hW : W < 4294967296) (hr : r < 1000000) :
    fParse (fPrint (some (vOf b W r)) ++ [48]) = none ∨ (¬ r = 0 ∧ fParse (fPrint (some (vOf b W r)) ++ [48]) = some (some (vOf b W r))) ∨ (r = 0 ∧ fParse (fPrint (some (vOf b W r)) ++ [48]) = some (some (vOf b W r * 10))) := by
  rw [text_is b hr, List.append_assoc]
  obtain ⟨c, s, e, hc⟩ := uT_head W r
  rw [parse_sign (c := c) (s := s ++ [48]) (by rw [e]; rfl) hc]
  have hd := dgs_dec W
  have hrd := rd_dec W
  by_cases h0 : r = 0
  · subst h0
    have e1 : uT W 0 ++ [48] = Lib.decDigits W ++ [48] := by unfold uT; rw [if_pos rfl, List.append_nil]
    rw [e1]
    have hdd : dgs (Lib.decDigits W ++ [48]) = true := by rw [dgs_append, hd, dgs48]; rfl
    by_cases hW0 : W = 0
    · subst hW0
      left
      rw [dec0]
      exact gP_no (k := 2) (by simp) (by decide) (Or.inl rfl) (fun h => by
        rcases h.2.2 with h | h
        · omega
        · exact h rfl)
    · right; right
      refine ⟨rfl, ?_⟩
      have hg : good (Lib.decDigits W ++ [48]).length (Lib.decDigits W ++ [48]) := by
        refine ⟨by simp, by rw [List.length_append]; have := dec_le10 hW; simp; omega, Or.inr ?_⟩
        have h1 := head_dec (u := W) (by omega)
        obtain ⟨c', s', e', _, _⟩ := dec_head W
        rw [e'] at h1 ⊢
        exact h1
      rw [gP_all hdd hg, rd_append, hrd]
      have e2 : rd [48] = 0 := by decide
      rw [e2]
      have e3 : (W * 10 ^ [(48 : UInt8)].length + 0) * 1000000 = (W * 1000000 + 0) * 10 := by simp; omega
      rw [e3, sgn_v10 hW hr]
  · have hne := frac_ne hr h0
    obtain ⟨f1, f2, f3, f4⟩ := frac_facts hr
    have e1 : uT W r ++ [48] = Lib.decDigits W ++ 46 :: (fracT r ++ [48]) := by unfold uT; rw [if_neg h0, List.append_assoc]; rfl
    rw [e1]
    have hsv := sgn_v (b := b) hW hr
    have hg := fun R => dec_good (u := W) (by omega) R
    generalize fracT r = F at *
    generalize Lib.decDigits W = D at *
    have hk : D.length < (D ++ 46 :: (F ++ [48])).length := by simp
    have t1 : (D ++ 46 :: (F ++ [48])).take D.length = D := by simp
    have t2 : (D ++ 46 :: (F ++ [48]))[D.length] = 46 := by simp
    have t3 : (D ++ 46 :: (F ++ [48])).drop (D.length + 1) = F ++ [48] := by simp
    have hdF : dgs (F ++ [48]) = true := by rw [dgs_append, f1, dgs48]; rfl
    have hlF : (F ++ [48]).length = F.length + 1 := by simp
    by_cases h6 : F.length = 6
    · left
      refine gP_bad hk (by rw [t1]; exact hd) t2 ?_
      rw [t3]
      unfold fDigits
      rw [hlF, decide_eq_false (show ¬ F.length + 1 ≤ 6 by omega)]
      simp
    · right; left
      refine ⟨h0, ?_⟩
      have hF : fDigits (F ++ [48]) 6 = true := by
        unfold fDigits
        rw [hlF, decide_eq_true (show 1 ≤ F.length + 1 by omega), decide_eq_true (show F.length + 1 ≤ 6 by omega), hdF]
        rfl
      rw [gP_good hk (by rw [t1]; exact hd) t2 (hg _) (by rw [t3]; exact hF), t1, t3, hrd, hlF, rd_append]
      have e2 : rd [48] = 0 := by decide
      have e3 : (rd F * 10 ^ [(48 : UInt8)].length + rd [48]) * 10 ^ (6 - (F.length + 1)) = r := by
        rw [e2, Nat.add_zero, ← f3]
        have : 6 - F.length = (6 - (F.length + 1)) + 1 := by omega
        rw [this, Nat.pow_succ, Nat.mul_assoc]
        congr 1
        rw [Nat.mul_comm]
        rfl
      rw [e3, hsv]
theorem ahead (b : Bool) {W r : Nat} (hr : r < 1000000) : fParse (48 :: fPrint (some (vOf b W r))) = none := by
  rw [text_is b hr]
  have hp : ∀ T : List UInt8, fParse (48 :: T) = gP false (48 :: T) := by
    intro T
    rw [gP_parse (by simp)]
    have e1 : mns (48 :: T) = false := by simp [mns]
    have e2 : bare (48 :: T) = 48 :: T := by unfold bare; rw [e1]; rfl
    rw [e1, e2]
  rw [hp]
  by_cases h : vOf b W r < 0
  · rw [if_pos h]
    exact gP_char (k := 1) (by simp) (by show dgs [48] = true; decide) (by show isDg 45 = false; decide) (by show ¬ (45 : UInt8) = 46; decide)
  · rw [if_neg h, List.nil_append]
    have hd := dgs_dec W
    obtain ⟨c, s, e, hc, _⟩ := dec_head W
    have hlen : 1 ≤ (Lib.decDigits W).length := by rw [e]; simp
    have hbad : ∀ t : List UInt8, ¬ good ((Lib.decDigits W).length + 1) (48 :: t) := fun t h => by
      rcases h.2.2 with h | h
      · omega
      · exact h rfl
    unfold uT
    by_cases h0 : r = 0
    · rw [if_pos h0, List.append_nil]
      refine gP_no (k := (Lib.decDigits W).length + 1) (by simp) ?_ (Or.inl (by simp)) (hbad _)
      rw [List.take_succ_cons, List.take_of_length_le (Nat.le_refl _)]
      show dgs ([48] ++ Lib.decDigits W) = true
      rw [dgs_append, hd, dgs48]
      rfl
    · rw [if_neg h0]
      generalize Lib.decDigits W = D at *
      refine gP_no (k := D.length + 1) (by simp) ?_ (Or.inr ⟨by simp, by simp; decide⟩) (hbad _)
      rw [List.take_succ_cons, List.take_left']
      · show dgs ([48] ++ D) = true
        rw [dgs_append, hd, dgs48]
        rfl
      · rfl
def hasDot (l : List UInt8) : Bool := l.any (fun c => c == 46)
theorem dot_digits : ∀ {l : List UInt8}, dgs l = true → hasDot l = false
  | [], _ => rfl
  | c :: l, h => by
    have h1 : isDg c = true ∧ dgs l = true := by simpa [dgs] using h
    have h2 := (digit_lead h1.1).2.1
    have h3 := dot_digits h1.2
    unfold hasDot at *
    simp [h2]
    simpa using h3
theorem dot_is (b : Bool) {W r : Nat} (hr : r < 1000000) : hasDot (fPrint (some (vOf b W r))) = decide (¬ r = 0) := by
  rw [text_is b hr]
  have h1 : hasDot (if vOf b W r < 0 then [45] else []) = false := by split <;> decide
  have h2 := dot_digits (dgs_dec W)
  unfold hasDot at *
  rw [List.any_append, h1]
  unfold uT
  rw [List.any_append, h2]
  by_cases h0 : r = 0
  · rw [if_pos h0, decide_eq_false (by simpa using h0)]
    rfl
  · rw [if_neg h0, decide_eq_true h0]
    simp
theorem last_isnt (b : Bool) {W r : Nat} (hr : r < 1000000) (h0 : ¬ r = 0) : (fPrint (some (vOf b W r))).getLast? ≠ some 48 := by
  obtain ⟨f1, f2, f3, f4⟩ := frac_facts hr
  have hne := frac_ne hr h0
  rw [text_is b hr]
  unfold uT
  rw [if_neg h0]
  cases hF : fracT r with
  | nil => exact absurd hF hne
  | cons c s =>
    rw [hF] at f4
    simpa [List.getLast?_append, List.getLast?_cons] using f4
theorem text_len (b : Bool) {W r : Nat} (hW : W < 4294967296) (hr : r < 1000000) : 1 ≤ (fPrint (some (vOf b W r))).length ∧ (fPrint (some (vOf b W r))).length ≤ 20 := by
  rw [text_is b hr]
  obtain ⟨c, s, e, hc⟩ := uT_head W r
  have l1 := dec_le10 hW
  have l2 := (frac_facts hr).2.1
  have l3 : (if vOf b W r < 0 then [45] else ([] : List UInt8)).length ≤ 1 := by split <;> simp
  have l4 : (uT W r).length ≤ 17 := by
    unfold uT
    rw [List.length_append]
    split
    · simp; omega
    · simp; omega
  have l5 : 1 ≤ (uT W r).length := by rw [e]; simp
  rw [List.length_append]
  omega
theorem mul_ten (b : Bool) {W r : Nat} (hW : W < 4294967296) (hr : r < 1000000) : fMul (some (vOf b W r)) (some 10000000) = some (vOf b W r * 10) := by
  have h2 := vOf_range b hW hr
  show norm ((vOf b W r * 10000000).tdiv 1000000) = _
  have e : vOf b W r * 10000000 = vOf b W r * 10 * 1000000 := by omega
  rw [e, Int.mul_tdiv_cancel _ (by decide)]
  unfold norm
  rw [if_pos (by omega)]
end Go.Proofs.YtibdlcegmepbcabDoor
