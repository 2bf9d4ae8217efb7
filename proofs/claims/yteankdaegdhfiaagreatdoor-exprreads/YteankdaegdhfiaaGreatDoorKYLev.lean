/- Texts that the others lean on. -/
import Derived.Test.YteankdaegdhfiaaGreatDoorKMB
namespace Go.Proofs.YteankdaegdhfiaaGreatDoor
open Go.RowKit
theorem map_tx_at (l : List Str) {j : Nat} (h : j < l.length) : (l.map tx).toArray[j]? = some (tx (l.getD j [])) := by
 simp [List.getD, List.getElem?_eq_getElem h]
set_option maxHeartbeats 4000000 in
theorem among_row (s : Str) (l : List Str) (hl : l.length = 6) (A : Array Value) (hA : Hid (A = (l.map tx).toArray)) (r : Bool) (hr : Hid (r = (s != [] && l.contains s))) (w : World) : Calls Tryz.prog 113 #[tx s, .agg A] w fun e w' => e = .returned (.bool r) ∧ Below w.heap.size w w' := by
 have q0 := heap_new w (.cells A 59)
 have hc : Hid (∀ j, j < 6 → (w.alloc (.cells A 59)).cell? ⟨w.heap.size, j, none⟩ = some (tx (l.getD j []))) := fun j hj => by rw [cell_at q0, hA.out, map_tx_at l (by omega)]
 have B := bal (Below.refl w.heap.size w) (.cells A 59)
 have HL : Hid (l.length = 6) := hl
 clear hl q0
 go_enter Tryz.func113, Tryz.ntmps113
 go_upto_region 2 with fail
 generalize w.alloc (.cells A 59) = w1 at *
 go_loopw [5] (fun i wr => ∃ j : Nat, j ≤ 6 ∧ i = .int .i64 j ∧ w1 = wr ∧ Hid (s ≠ [] → ∀ k, k < j → l.getD k [] ≠ s)) (fun i _ => 6 - (intOf i).toNat)
 case atStart => exact ⟨0, by omega, rfl, rfl, fun _ k hk => by omega⟩
 case round =>
  obtain ⟨j, hj, rfl, rfl, HQ⟩ := hrel
  by_cases hlt : j < 6
  ·
   have hlt' : (j : Int) < 6 := by omega
   have c := hc.out j hlt
   by_cases hs : s = []
   ·
    have hs1 : List.isEmpty s = true := by rw [hs]; rfl
    have HS : Hid (s = []) := hs
    clear hs HQ
    obtain ⟨x, hx⟩ : ∃ x, Hid (l.getD j [] = x) := ⟨_, rfl⟩
    rw [hx.out] at c
    go_wp2_with fail
    go_roundw
    case rel => exact ⟨j + 1, by omega, by go_num, trivial, fun h => absurd HS.out h⟩
    case measure => simp [intOf]; omega
   ·
    have hs0 : Hid ((s != []) = true) := by show _ = _; rw [bne_iff_ne]; exact hs
    have hs1 : List.isEmpty s = false := by cases s with
     | nil => exact absurd rfl hs
     | cons a b => rfl
    clear hs
    by_cases he : l.getD j [] = s
    ·
     have he1 : (l.getD j [] == s) = true := by rw [beq_iff_eq]; exact he
     have HA : Hid (r = true) := by
      show _ = _
      rw [hr.out, hs0.out, Bool.true_and, List.contains_iff_mem, ← he, List.getD, List.getElem?_eq_getElem (by rw [HL.out]; omega)]
      exact List.getElem_mem _
     clear he
     obtain ⟨x, hx⟩ : ∃ x, Hid (l.getD j [] = x) := ⟨_, rfl⟩
     rw [hx.out] at c he1
     go_wp2_with fail
     go_ret
     exact ⟨by rw [HA.out]; rfl, B⟩
    ·
     have he1 : (l.getD j [] == s) = false := by rw [beq_eq_false_iff_ne]; exact he
     have HN : Hid (s ≠ [] → ∀ k, k < j + 1 → l.getD k [] ≠ s) := fun h k hk => by
      by_cases e : k = j
      ·
       rw [e]; exact he
      ·
       exact HQ.out h k (by omega)
     clear he HQ
     obtain ⟨x, hx⟩ : ∃ x, Hid (l.getD j [] = x) := ⟨_, rfl⟩
     rw [hx.out] at c he1
     go_wp2_with fail
     go_roundw
     case rel => exact ⟨j + 1, by omega, by go_num, trivial, HN⟩
     case measure => simp [intOf]; omega
  ·
   have hlt' : ¬ (j : Int) < 6 := by omega
   have HA : Hid (r = false) := by
    show _ = _
    rw [hr.out]
    by_cases hs : s = []
    ·
     simp [hs]
    ·
     have : l.contains s = false := by
      cases hcn : l.contains s with
      | false => rfl
      | true =>
       obtain ⟨k, hk, e⟩ := List.getElem_of_mem (List.contains_iff_mem.1 hcn)
       have := HQ.out hs k (by rw [HL.out] at hk; omega)
       rw [List.getD, List.getElem?_eq_getElem hk] at this
       exact absurd e this
     rw [this, Bool.and_false]
   clear HQ
   go_wp2_with fail
   go_ret
   exact ⟨by rw [HA.out]; rfl, B⟩
theorem among_any (s : Str) (l : List Str) (hl : l.length = 6) (w : World) : Calls Tryz.prog 113 #[tx s, .agg (l.map tx).toArray] w fun e w' => e = .returned (.bool (s != [] && l.contains s)) ∧ Below w.heap.size w w' := among_row s l hl _ rfl _ rfl w
def cmpW : List Str := [[62], [60], [62, 61], [60, 61], [61, 61], [33, 61]]
def aggW : List Str := [[115, 117, 109], [109, 105, 110], [109, 97, 120], [99, 111, 117, 110, 116], [97, 118, 103], []]
theorem lv_cmp (s : Str) : (s != [] && cmpW.contains s) = (s == [62] || s == [60] || s == [62, 61] || s == [60, 61] || s == [61, 61] || s == [33, 61]) := by
 by_cases h : s = []
 ·
  subst h; decide
 ·
  have : (s != []) = true := by rw [bne_iff_ne]; exact h
  rw [this, Bool.true_and, Bool.eq_iff_iff]
  simp [cmpW, or_assoc]
theorem agg_w (s : Str) : (s != [] && aggW.contains s) = isAggB s := by
 unfold isAggB
 by_cases h : s = []
 ·
  subst h; decide
 ·
  have h1 : (s != []) = true := by rw [bne_iff_ne]; exact h
  rw [h1, Bool.true_and, Bool.eq_iff_iff]
  simp [aggW, or_assoc, h]
set_option maxHeartbeats 4000000 in
theorem level_any (s : Str) (w : World) : Calls Tryz.prog 67 #[tx s] w fun e w' => e = .returned (.int .i64 (lv s - 1)) ∧ Below w.heap.size w w' := by
 have ha := among_any s cmpW rfl w
 rw [lv_cmp] at ha
 simp only [cmpW, List.map_cons, List.map_nil] at ha
 have HV : Hid (lv s = if (s == [62] || s == [60] || s == [62, 61] || s == [60, 61] || s == [61, 61] || s == [33, 61]) = true then 1 else if (s == [43] || s == [45]) = true then 2 else if (s == [42] || s == [47]) = true then 3 else 0) := rfl
 generalize lv s = V at *
 generalize (s == [62] || s == [60] || s == [62, 61] || s == [60, 61] || s == [61, 61] || s == [33, 61]) = c at *
 cases c with
 | true =>
  go_enter Tryz.func67, Tryz.ntmps67
  go_wp2_with fail
  refine ha.mono ?_
  rintro e w1 ⟨rfl, b1⟩
  go_wp2_with fail
  go_ret
  exact ⟨by rw [HV.out]; rfl, b1⟩
 | false =>
  cases h1 : (s == [43]) with
  | true =>
   rw [h1] at HV
   go_enter Tryz.func67, Tryz.ntmps67
   go_wp2_with fail
   refine ha.mono ?_
   rintro e w1 ⟨rfl, b1⟩
   go_wp2_with fail
   go_ret
   exact ⟨by rw [HV.out]; rfl, b1⟩
  | false =>
   cases h2 : (s == [45]) with
   | true =>
    rw [h1, h2] at HV
    go_enter Tryz.func67, Tryz.ntmps67
    go_wp2_with fail
    refine ha.mono ?_
    rintro e w1 ⟨rfl, b1⟩
    go_wp2_with fail
    go_ret
    exact ⟨by rw [HV.out]; rfl, b1⟩
   | false =>
    cases h3 : (s == [42]) with
    | true =>
     rw [h1, h2, h3] at HV
     go_enter Tryz.func67, Tryz.ntmps67
     go_wp2_with fail
     refine ha.mono ?_
     rintro e w1 ⟨rfl, b1⟩
     go_wp2_with fail
     go_ret
     exact ⟨by rw [HV.out]; rfl, b1⟩
    | false =>
     cases h4 : (s == [47]) with
     | true =>
      rw [h1, h2, h3, h4] at HV
      go_enter Tryz.func67, Tryz.ntmps67
      go_wp2_with fail
      refine ha.mono ?_
      rintro e w1 ⟨rfl, b1⟩
      go_wp2_with fail
      go_ret
      exact ⟨by rw [HV.out]; rfl, b1⟩
     | false =>
      rw [h1, h2, h3, h4] at HV
      go_enter Tryz.func67, Tryz.ntmps67
      go_wp2_with fail
      refine ha.mono ?_
      rintro e w1 ⟨rfl, b1⟩
      go_wp2_with fail
      go_ret
      exact ⟨by rw [HV.out]; rfl, b1⟩
end Go.Proofs.YteankdaegdhfiaaGreatDoor
