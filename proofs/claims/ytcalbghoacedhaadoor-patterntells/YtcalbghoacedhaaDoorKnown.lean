/- known: what every law asks first. -/
import Derived.Test.YtcalbghoacedhaaDoorAll
namespace Go.Proofs.YtcalbghoacedhaaDoor
open Go.RowKit

theorem big_lit {s : Str} (h : s.length ≤ 1000) : Big s := by unfold Big; omega
def ex1 : List Pr := [([97], [97, 98, 99])]
def ex2 : List Mat := [⟨[97], 3, [97, 98]⟩, ⟨[98], 1, []⟩]
theorem ex_all : fAll ex1 ex2 = true := by decide
theorem ps_ex (w : World) : Ps (w.alloc (.cells #[.string ⟨#[97]⟩, .string ⟨#[97, 98, 99]⟩] 37)) (some ⟨w.heap.size, 0, none⟩) 1 ex1 := by
  refine ⟨rfl, fun _ => ⟨_, 0, rfl, fun j hj => ?_⟩⟩
  obtain rfl : j = 0 := by omega
  constructor <;> simp [go_sem, ex1]
theorem ms_ex (w : World) : Ms (w.alloc (.cells #[.string ⟨#[97]⟩, .int .i64 3, .string ⟨#[97, 98]⟩, .string ⟨#[98]⟩, .int .i64 1, .string ⟨#[]⟩] 26)) (some ⟨w.heap.size, 0, none⟩) 2 ex2 := by
  refine ⟨rfl, fun _ => ⟨_, 0, rfl, fun j hj => ?_⟩⟩
  obtain rfl | rfl : j = 0 ∨ j = 1 := by omega
  · refine ⟨?_, ?_, ?_⟩ <;> simp [go_sem, ex2]
  · refine ⟨?_, ?_, ?_⟩ <;> simp [go_sem, ex2]
theorem fit_ex1 : FitP ex1 := by
  intro p hp
  simp only [ex1, List.mem_singleton] at hp
  subst hp
  exact ⟨big_lit (by decide), big_lit (by decide)⟩
theorem fit_ex2 : FitM ex2 := by
  intro p hp
  simp only [ex2, List.mem_cons, List.not_mem_nil, or_false] at hp
  rcases hp with rfl | rfl <;> exact ⟨big_lit (by decide), big_lit (by decide)⟩
set_option maxHeartbeats 2000000 in
theorem known_any (w : World) : Calls Tryd.prog 8 #[] w fun e w' => e = .returned (.bool true) ∧ Below w.heap.size w w' := by
  have g1 : ∀ W, Calls Tryd.prog 13 #[.string ⟨#[97, 42, 99]⟩, .string ⟨#[97, 98, 99]⟩] W fun e w' => e = .returned (.bool true) ∧ Below W.heap.size W w' := fun W => glob_any [97, 42, 99] [97, 98, 99] W (by decide) (by decide)
  have g2 : ∀ W, Calls Tryd.prog 13 #[.string ⟨#[97, 63, 99]⟩, .string ⟨#[97, 99]⟩] W fun e w' => e = .returned (.bool false) ∧ Below W.heap.size W w' := fun W => glob_any [97, 63, 99] [97, 99] W (by decide) (by decide)
  have g3 : ∀ W, Calls Tryd.prog 13 #[.string ⟨#[42]⟩, .string ⟨#[]⟩] W fun e w' => e = .returned (.bool true) ∧ Below W.heap.size W w' := fun W => glob_any [42] [] W (by decide) (by decide)
  have o1 : ∀ W, Calls Tryd.prog 11 #[.agg #[.string ⟨#[]⟩, .int .i64 9, .string ⟨#[]⟩], .string ⟨#[]⟩] W fun e w' => e = .returned (.bool false) ∧ Below W.heap.size W w' := fun W => one_any ⟨[], 9, []⟩ [] W (big_lit (by decide)) (big_lit (by decide))
  have i1 : ∀ W, Calls Tryd.prog 9 #[.agg #[.string ⟨#[97]⟩, .int .i64 2, .string ⟨#[]⟩]] W fun e w' => e = .returned (.bool true) ∧ Below W.heap.size W w' := fun W => isM_any ⟨[97], 2, []⟩ W (big_lit (by decide))
  go_enter Tryd.func8, Tryd.ntmps8
  go_wp2_with fail
  refine (g1 _).mono ?_
  rintro e w1 ⟨rfl, hb1⟩
  go_wp2_with fail
  refine (g2 _).mono ?_
  rintro e w2 ⟨rfl, hb2⟩
  go_wp2_with fail
  refine (g3 _).mono ?_
  rintro e w3 ⟨rfl, hb3⟩
  go_wp2_with fail
  have B3 := Below.chain (Below.chain hb1 hb2) hb3
  have B4 := bal B3 (.cells #[.string ⟨#[97]⟩, .int .i64 3, .string ⟨#[97, 98]⟩, .string ⟨#[98]⟩, .int .i64 1, .string ⟨#[]⟩] 26)
  refine (all_any _ 1 1 ex1 _ 2 2 ex2 _ (by decide) (by decide) ((ps_ex w).later B4) (ms_ex w3) fit_ex1 fit_ex2).mono ?_
  rintro e w4 ⟨rfl, hb4⟩
  rw [ex_all]
  go_wp2_with fail
  refine (o1 _).mono ?_
  rintro e w5 ⟨rfl, hb5⟩
  go_wp2_with fail
  refine (i1 _).mono ?_
  rintro e w6 ⟨rfl, hb6⟩
  go_wp2_with fail
  go_ret
  exact ⟨rfl, Below.chain (bal (Below.refl _ _) _) (Below.chain (Below.chain (Below.chain B4 hb4) hb5) hb6)⟩
end Go.Proofs.YtcalbghoacedhaaDoor
