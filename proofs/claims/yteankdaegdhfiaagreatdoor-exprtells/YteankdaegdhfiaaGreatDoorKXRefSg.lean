/- Texts that the others lean on. -/
import Derived.Test.YteankdaegdhfiaaGreatDoorKXSigns0
namespace Go.Proofs.YteankdaegdhfiaaGreatDoor
open Go.RowKit
/-- A text begins with the sign at that place. -/
def MtS (s : Str) (i : Nat) : Prop := sgL.getD i [] ≠ [] ∧ (sgL.getD i []).length ≤ s.length ∧ s.take (sgL.getD i []).length = sgL.getD i []
theorem sg_two {t : Str} (h : isSg t = true) (hl : t.length = 2) : ∃ i, i < 6 ∧ sgL.getD i [] = t := by
 rcases sign_cases h with rfl | rfl | rfl | rfl | rfl | rfl | rfl | rfl | rfl | rfl | rfl | rfl | rfl | rfl | rfl | rfl | rfl | rfl | rfl | rfl <;> first
  | (simp at hl; done)
  | exact ⟨0, by omega, rfl⟩
  | exact ⟨1, by omega, rfl⟩
  | exact ⟨2, by omega, rfl⟩
  | exact ⟨3, by omega, rfl⟩
  | exact ⟨4, by omega, rfl⟩
  | exact ⟨5, by omega, rfl⟩
theorem sg_one {t : Str} (h : isSg t = true) (hl : t.length = 1) : ∃ i, i < 20 ∧ sgL.getD i [] = t := by
 rcases sign_cases h with rfl | rfl | rfl | rfl | rfl | rfl | rfl | rfl | rfl | rfl | rfl | rfl | rfl | rfl | rfl | rfl | rfl | rfl | rfl | rfl <;> first
  | (simp at hl; done)
  | exact ⟨6, by omega, rfl⟩
  | exact ⟨7, by omega, rfl⟩
  | exact ⟨8, by omega, rfl⟩
  | exact ⟨9, by omega, rfl⟩
  | exact ⟨10, by omega, rfl⟩
  | exact ⟨11, by omega, rfl⟩
  | exact ⟨12, by omega, rfl⟩
  | exact ⟨13, by omega, rfl⟩
  | exact ⟨14, by omega, rfl⟩
  | exact ⟨15, by omega, rfl⟩
  | exact ⟨16, by omega, rfl⟩
  | exact ⟨17, by omega, rfl⟩
  | exact ⟨18, by omega, rfl⟩
  | exact ⟨19, by omega, rfl⟩
theorem sg_at {i : Nat} (h : i < 22) (hn : sgL.getD i [] ≠ []) : isSg (sgL.getD i []) = true ∧ (i < 6 ∧ (sgL.getD i []).length = 2 ∨ 6 ≤ i ∧ (sgL.getD i []).length = 1) := by
 match i, h with
 | 0, _ | 1, _ | 2, _ | 3, _ | 4, _ | 5, _ => exact ⟨rfl, Or.inl ⟨by omega, rfl⟩⟩
 | 6, _ | 7, _ | 8, _ | 9, _ | 10, _ | 11, _ | 12, _ | 13, _ | 14, _ | 15, _ | 16, _ | 17, _ | 18, _ | 19, _ => exact ⟨rfl, Or.inr ⟨by omega, rfl⟩⟩
 | 20, _ | 21, _ => exact absurd rfl hn
 | i + 22, h => omega
theorem sg_le (i : Nat) : (sgL.getD i []).length ≤ 2 := by
 by_cases h : i < 22
 ·
  by_cases hn : sgL.getD i [] = []
  ·
   rw [hn]; simp
  ·
   rcases (sg_at h hn).2 with ⟨_, e⟩ | ⟨_, e⟩ <;> omega
 ·
  have : sgL.getD i [] = [] := by
   rw [List.getD, List.getElem?_eq_none (by show sgL.length ≤ i; show 22 ≤ i; omega)]
   rfl
  rw [this]; simp
theorem sg_none2 {s : Str} (h : ∀ i, i < 6 → ¬ MtS s i) : ¬ (2 ≤ s.length ∧ isSg (s.take 2) = true) := by
 rintro ⟨h2, hs⟩
 have hl : (s.take 2).length = 2 := by rw [List.length_take]; omega
 obtain ⟨i, hi, e⟩ := sg_two hs hl
 refine h i hi ⟨?_, ?_, ?_⟩
 ·
  rw [e]; intro e2; rw [e2] at hl; cases hl
 ·
  rw [e, hl]; exact h2
 ·
  rw [e, hl]
theorem sg_hit {s : Str} {j : Nat} (hj : j < 22) (hb : ∀ i, i < j → ¬ MtS s i) (h : MtS s j) : tkSg s = some (tSign (sgL.getD j []), (sgL.getD j []).length) := by
 obtain ⟨h1, h2, h3⟩ := h
 obtain ⟨hs, hc⟩ := sg_at hj h1
 unfold tkSg
 rcases hc with ⟨_, hl⟩ | ⟨h6, hl⟩
 ·
  rw [hl] at h2 h3
  rw [h3, if_pos ⟨h2, hs⟩, hl]
 ·
  rw [if_neg (sg_none2 (fun i hi => hb i (by omega)))]
  rw [hl] at h3
  rw [h3, if_pos hs, hl]
theorem sg_miss {s : Str} (hs : s ≠ []) (hb : ∀ i, i < 22 → ¬ MtS s i) : tkSg s = none := by
 unfold tkSg
 rw [if_neg (sg_none2 (fun i hi => hb i (by omega))), if_neg]
 intro h
 have hp : 0 < s.length := List.length_pos_iff.2 hs
 have hl : (s.take 1).length = 1 := by rw [List.length_take]; omega
 obtain ⟨i, hi, e⟩ := sg_one h hl
 refine hb i (by omega) ⟨?_, ?_, ?_⟩
 ·
  rw [e]; intro e2; rw [e2] at hl; cases hl
 ·
  rw [e, hl]; omega
 ·
  rw [e, hl]
end Go.Proofs.YteankdaegdhfiaaGreatDoor
