/- What was laid is read: Get behind Put, GetText behind Text, whole and cut off. -/
import Derived.Test.YteajcgodfbaeiaaKnown
namespace Go.Proofs.Yteajcgodfbaeiaa
open Go.RowKit

theorem str_eta (s : ByteArray) : (⟨s.data.toList.toArray⟩ : ByteArray) = s := by cases s; simp
theorem head2 (s : ByteArray) (r : List UInt8) : (low s.size 2 ++ r).take 2 = low s.size 2 := by
  rw [List.take_append_of_le_length (by rw [low_length]; exact Nat.le_refl _), List.take_of_length_le (by rw [low_length]; exact Nat.le_refl _)]
theorem tail2 (s : ByteArray) (r : List UInt8) : (low s.size 2 ++ r).drop 2 = r := by
  rw [List.drop_append_of_le_length (by rw [low_length]; exact Nat.le_refl _), List.drop_of_length_le (by rw [low_length]; exact Nat.le_refl _), List.nil_append]
theorem num2 (s : ByteArray) (h : s.size ≤ 1000) : num (low s.size 2) = s.size := by
  rw [num_low]
  exact Nat.mod_eq_of_lt (by omega)

theorem text_back (ao : Option Addr) (n cap : Nat) (s : ByteArray) (r : List UInt8) (most : Int) (w : World) (hs : s.size ≤ 1000) (hb : Bs w ao n cap (low s.size 2 ++ (s.data.toList ++ r))) (hB : n ≤ 1000000) (hm : s.size ≤ most) :
    Calls Try.prog 17 #[.slice ao n cap, .int .i64 most] w fun e w' => ∃ ao m cap, e = .returned (.tuple #[.string s, .slice ao m cap, .int .i64 0]) ∧ Bs w' ao m cap r ∧ Below w.heap.size w w' := by
  have hn := hb.1
  rw [List.length_append, List.length_append, low_length, str_len] at hn
  have e1 : num ((low s.size 2 ++ (s.data.toList ++ r)).take 2) = s.size := by rw [head2, num2 s hs]
  have e2 : (low s.size 2 ++ (s.data.toList ++ r)).drop 2 = s.data.toList ++ r := tail2 s _
  refine (gettext_ok ao n cap most _ w hb hB (by omega) (by rw [e1]; exact hm) (by rw [e1]; omega)).mono ?_
  rintro e w' ⟨ao', m, c, rfl, hb', hbel⟩
  rw [e1, e2] at *
  have e3 : (s.data.toList ++ r).take s.size = s.data.toList := by
    rw [← str_len s, List.take_append_of_le_length (Nat.le_refl _), List.take_length]
  have e4 : (s.data.toList ++ r).drop s.size = r := by
    rw [← str_len s, List.drop_append_of_le_length (Nat.le_refl _), List.drop_length, List.nil_append]
  rw [e3, str_eta]
  rw [e4] at hb'
  exact ⟨_, _, _, rfl, hb', hbel⟩

theorem text_cut (ao : Option Addr) (cap j : Nat) (s : ByteArray) (w : World) (hs : s.size ≤ 100) (hb : Bs w ao j cap ((low s.size 2 ++ s.data.toList).take j)) (hj : j < s.size + 2) :
    Calls Try.prog 17 #[.slice ao j cap, .int .i64 200] w fun e w' => ∃ ao cap, e = .returned (.tuple #[.string ⟨#[]⟩, .slice ao j cap, .int .i64 10]) ∧ Below w.heap.size w w' := by
  have hl := hb.1
  by_cases h2 : j < 2
  · refine (gettext_none ao j cap 200 _ w hb h2).mono ?_
    rintro e w' ⟨ao', m, c, rfl, hb', hbel⟩
    obtain rfl : j = m := hl.symm.trans hb'.1
    exact ⟨_, _, rfl, hbel⟩
  · have e1 : num (((low s.size 2 ++ s.data.toList).take j).take 2) = s.size := by
      rw [List.take_take, Nat.min_eq_left (by omega), head2, num2 s (by omega)]
    refine (gettext_short ao j cap 200 _ w hb (by omega) (by omega) (by rw [e1]; omega) (by rw [e1]; omega)).mono ?_
    rintro e w' ⟨ao', m, c, rfl, hb', hbel⟩
    obtain rfl : j = m := hl.symm.trans hb'.1
    exact ⟨_, _, rfl, hbel⟩

theorem text_long (ao : Option Addr) (n cap : Nat) (s : ByteArray) (w : World) (hs : s.size ≤ 100) (hb : Bs w ao n cap (low s.size 2 ++ s.data.toList)) :
    Calls Try.prog 17 #[.slice ao n cap, .int .i64 ((s.size : Int) - 1)] w fun e w' => ∃ ao m cap, e = .returned (.tuple #[.string ⟨#[]⟩, .slice ao m cap, .int .i64 11]) ∧ Below w.heap.size w w' := by
  have hn := hb.1
  rw [List.length_append, low_length, str_len] at hn
  have e1 : num ((low s.size 2 ++ s.data.toList).take 2) = s.size := by rw [head2, num2 s (by omega)]
  refine (gettext_long ao n cap _ _ w hb (by omega) (by omega) (by rw [e1]; omega)).mono ?_
  rintro e w' ⟨ao', m, c, rfl, hb', hbel⟩
  exact ⟨_, _, _, rfl, hbel⟩
end Go.Proofs.Yteajcgodfbaeiaa
