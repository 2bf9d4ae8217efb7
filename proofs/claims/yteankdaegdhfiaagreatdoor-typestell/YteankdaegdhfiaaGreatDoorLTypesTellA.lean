/- TypesTell: for every input the law returns true, and its arguments read as they did: the row, and its card, tied to the program's text. Conditions: none beyond the card's own. -/
import Derived.Test.YteankdaegdhfiaaGreatDoorMT
import Derived.Test.YteankdaegdhfiaaGreatDoorMB
import Derived.BigQuiet
import Derived.Deep.CutRange
import Derived.Test.YteankdaegdhfiaaGreatDoorMAF
import Derived.Test.YteankdaegdhfiaaGreatDoorMC
import Derived.Test.YteankdaegdhfiaaGreatDoorMP
import Derived.Test.YteankdaegdhfiaaGreatDoorML
import Derived.Test.YteankdaegdhfiaaGreatDoorMS
import Derived.Test.YteankdaegdhfiaaGreatDoorMU
import Derived.Test.YteankdaegdhfiaaGreatDoorTie
import Derived.Test.YteankdaegdhfiaaGreatDoorCards
/- What is made round an expression: its type, in plain words. -/
namespace Go.Proofs.YteankdaegdhfiaaGreatDoor
open Go.RowKit

theorem ty_call (p : Int) (nm : Str) (e : Ex) (hk : knw nm = true) : tyE (eCall p nm e) = if (tyE e).2.2 ≠ 0 then (0, (tyE e).2) else if (tyE e).1 = 3 then (2, 0, 0) else (0, e.p, 90) := by
  rw [tyE_eq]
  unfold tyG eCall
  rw [if_neg (by simp [hk])]
  by_cases h : (tyE e).2.2 = 0
  · by_cases h3 : (tyE e).1 = 3
    · simp [badT, h, h3, fitT, misP, takesB, isT]
    · simp [badT, h, h3, fitT, misP, takesB]
  · simp [badT, h]
theorem ty_odd (p : Int) (nm : Str) (e : Ex) (hk : knw nm = false) : tyE (eCall p nm e) = (0, p, 91) := by
  rw [tyE_eq]
  unfold tyG eCall
  rw [if_pos ⟨rfl, hk⟩]
theorem ty_agg (p : Int) (nm : Str) (e : Ex) : tyE (eAgg p nm false false [] e) = if (tyE e).2.2 ≠ 0 then (0, (tyE e).2) else if (tyE e).1 = 2 then (2, 0, 0) else (0, e.p, 90) := by
  rw [tyE_eq]
  unfold tyG eAgg
  rw [if_neg (by simp)]
  by_cases h : (tyE e).2.2 = 0
  · by_cases h3 : (tyE e).1 = 2
    · simp [badT, h, h3, fitT, misP, takesB, isT]
    · simp [badT, h, h3, fitT, misP, takesB]
  · simp [badT, h]
theorem ty_bin (p : Int) (nm : Str) (a b : Ex) : tyE (eBin p nm false false [] a b) = if (tyE a).2.2 ≠ 0 then (0, (tyE a).2) else if (tyE b).2.2 ≠ 0 then (0, (tyE b).2) else if takesB 5 (tyE a).1 = false then (0, a.p, 90) else if takesB 5 (tyE b).1 = false then (0, b.p, 90) else if (cmpB nm && allT 1 [(tyE a).1, (tyE b).1]) = true then (0, p, 90) else (if allT 1 [(tyE a).1, (tyE b).1] = true then 1 else 2, 0, 0) := by
  rw [tyE_eq]
  unfold tyG eBin
  rw [if_neg (by simp)]
  by_cases h : (tyE a).2.2 = 0
  · by_cases g : (tyE b).2.2 = 0
    · rw [if_neg (by simp [h]), if_neg (by simp [g])]
      simp only [List.map_cons, List.map_nil, badT, h, g, if_true, fitT, misP]
      cases t1 : takesB 5 (tyE a).1 with
      | false => simp
      | true =>
        cases t2 : takesB 5 (tyE b).1 with
        | false => simp
        | true =>
          simp only [if_true, joinsB, isT]
          cases hc : cmpB nm <;> cases ha : allT 1 [(tyE a).1, (tyE b).1] <;> simp
    · simp [badT, h, g]
  · simp [badT, h]
theorem alk_call (p : Int) (nm : Str) (e : Ex) : alk (eCall p nm e) (ownE (eCall p nm e)) = true := by
  unfold alk ownE eCall
  simp [nEq, msEq]
theorem alk_agg (p : Int) (nm : Str) (e : Ex) : alk (eAgg p nm false false [] e) (ownE (eAgg p nm false false [] e)) = true := by
  unfold alk ownE eAgg
  simp [nEq, msEq]
theorem alk_bin (p : Int) (nm : Str) (a b : Ex) : alk (eBin p nm false false [] a b) (ownE (eBin p nm false false [] a b)) = true := by
  unfold alk ownE eBin
  simp [nEq, msEq]
theorem snd_call (p : Int) (nm : Str) (e : Ex) (hf : fFun nm = true) (h : sndE e = true) : sndE (eCall p nm e) = true := by
  rw [sndE_eq, alk_call]
  simp [kindE, fK, eCall, hf, h]
theorem snd_agg (p : Int) (nm : Str) (e : Ex) (hf : isAggB nm = true) (h : sndE e = true) : sndE (eAgg p nm false false [] e) = true := by
  rw [sndE_eq, alk_agg]
  simp [kindE, fK, eAgg, hf, h, fGrp]
theorem snd_bin (p : Int) (nm : Str) (a b : Ex) (hf : (lv nm != 0) = true) (h : sndE a = true) (g : sndE b = true) : sndE (eBin p nm false false [] a b) = true := by
  rw [sndE_eq, alk_bin]
  simp only [bne_iff_ne] at hf
  simp [kindE, fK, eBin, hf, h, g, fGrp]
theorem sz_call (p : Int) (nm : Str) (e : Ex) : sz (eCall p nm e) = 1 + sz e := by rw [eCall, sz_mk]; rfl
theorem sz_agg (p : Int) (nm : Str) (e : Ex) : sz (eAgg p nm false false [] e) = 1 + sz e := by rw [eAgg, sz_mk]; rfl
theorem sz_bin (p : Int) (nm : Str) (a b : Ex) : sz (eBin p nm false false [] a b) = 1 + (sz a + sz b) := by rw [eBin, sz_mk]; rfl
theorem Sm_one {k p : Int} {s : Str} {b1 b2 b3 b4 : Bool} {e : Ex} (hs : Big s) (h : Sm e) : Sm ⟨k, p, false, 0, s, [], 0, b1, b2, b3, b4, [], [e]⟩ := by
  refine (Sm_eq _).2 ⟨hs, (fun x hx => by cases hx), (fun x hx => by cases hx), by simp, by simp, by simp, fun x hx => ?_⟩
  rw [List.mem_singleton.1 hx]
  exact h
theorem Sm_two {k p : Int} {s : Str} {b1 b2 b3 b4 : Bool} {a b : Ex} (hs : Big s) (h : Sm a) (g : Sm b) : Sm ⟨k, p, false, 0, s, [], 0, b1, b2, b3, b4, [], [a, b]⟩ := by
  refine (Sm_eq _).2 ⟨hs, (fun x hx => by cases hx), (fun x hx => by cases hx), by simp, by simp, by simp, fun x hx => ?_⟩
  rcases List.mem_cons.1 hx with rfl | hx
  · exact h
  · rw [List.mem_singleton.1 hx]
    exact g
end Go.Proofs.YteankdaegdhfiaaGreatDoor
/- Whether a text is among six; how close an operator binds, in the document's words; names that are words. -/
namespace Go.Proofs.YteankdaegdhfiaaGreatDoor
open Go.RowKit

theorem map_tx_at (l : List Str) {j : Nat} (h : j < l.length) : (l.map tx).toArray[j]? = some (tx (l.getD j [])) := by
  simp [List.getD, List.getElem?_eq_getElem h]
set_option maxHeartbeats 4000000 in
theorem among_row (s : Str) (l : List Str) (hl : l.length = 6) (A : Array Value) (hA : Hid (A = (l.map tx).toArray)) (r : Bool) (hr : Hid (r = (s != [] && l.contains s))) (w : World) : Calls Tryz.prog 113 #[tx s, .agg A] w fun e w' => e = .returned (.bool r) ∧ Below w.heap.size w w' := by
  have q0 := heap_new w (.cells A 59)
  have hc : Hid (∀ j, j < 6 → (w.alloc (.cells A 59)).cell? ⟨w.heap.size, j, none⟩ = some (tx (l.getD j []))) := fun j hj => by rw [cell_at q0, hA.out, map_tx_at l (by omega)]
  have B := bal (Below.refl w.heap.size w) (.cells A 59)
  have HL : Hid (l.length = 6) := hl
  clear hl q0
  go_enter Tryz.func113, Tryz.ntmps113
  go_upto_region 2 with fail
  generalize w.alloc (.cells A 59) = w1 at *
  go_loopw [5] (fun i wr => ∃ j : Nat, j ≤ 6 ∧ i = .int .i64 j ∧ w1 = wr ∧ Hid (s ≠ [] → ∀ k, k < j → l.getD k [] ≠ s)) (fun i _ => 6 - (intOf i).toNat)
  case atStart => exact ⟨0, by omega, rfl, rfl, fun _ k hk => by omega⟩
  case round =>
    obtain ⟨j, hj, rfl, rfl, HQ⟩ := hrel
    by_cases hlt : j < 6
    · have hlt' : (j : Int) < 6 := by omega
      have c := hc.out j hlt
      by_cases hs : s = []
      · have hs1 : List.isEmpty s = true := by rw [hs]; rfl
        have HS : Hid (s = []) := hs
        clear hs HQ
        obtain ⟨x, hx⟩ : ∃ x, Hid (l.getD j [] = x) := ⟨_, rfl⟩
        rw [hx.out] at c
        go_wp2_with fail
        go_roundw
        case rel => exact ⟨j + 1, by omega, by go_num, trivial, fun h => absurd HS.out h⟩
        case measure => simp [intOf]; omega
      · have hs0 : Hid ((s != []) = true) := by show _ = _; rw [bne_iff_ne]; exact hs
        have hs1 : List.isEmpty s = false := by cases s with
          | nil => exact absurd rfl hs
          | cons a b => rfl
        clear hs
        by_cases he : l.getD j [] = s
        · have he1 : (l.getD j [] == s) = true := by rw [beq_iff_eq]; exact he
          have HA : Hid (r = true) := by
            show _ = _
            rw [hr.out, hs0.out, Bool.true_and, List.contains_iff_mem, ← he, List.getD, List.getElem?_eq_getElem (by rw [HL.out]; omega)]
            exact List.getElem_mem _
          clear he
          obtain ⟨x, hx⟩ : ∃ x, Hid (l.getD j [] = x) := ⟨_, rfl⟩
          rw [hx.out] at c he1
          go_wp2_with fail
          go_ret
          exact ⟨by rw [HA.out]; rfl, B⟩
        · have he1 : (l.getD j [] == s) = false := by rw [beq_eq_false_iff_ne]; exact he
          have HN : Hid (s ≠ [] → ∀ k, k < j + 1 → l.getD k [] ≠ s) := fun h k hk => by
            by_cases e : k = j
            · rw [e]; exact he
            · exact HQ.out h k (by omega)
          clear he HQ
          obtain ⟨x, hx⟩ : ∃ x, Hid (l.getD j [] = x) := ⟨_, rfl⟩
          rw [hx.out] at c he1
          go_wp2_with fail
          go_roundw
          case rel => exact ⟨j + 1, by omega, by go_num, trivial, HN⟩
          case measure => simp [intOf]; omega
    · have hlt' : ¬ (j : Int) < 6 := by omega
      have HA : Hid (r = false) := by
        show _ = _
        rw [hr.out]
        by_cases hs : s = []
        · simp [hs]
        · have : l.contains s = false := by
            cases hcn : l.contains s with
            | false => rfl
            | true =>
              obtain ⟨k, hk, e⟩ := List.getElem_of_mem (List.contains_iff_mem.1 hcn)
              have := HQ.out hs k (by rw [HL.out] at hk; omega)
              rw [List.getD, List.getElem?_eq_getElem hk] at this
              exact absurd e this
          rw [this, Bool.and_false]
      clear HQ
      go_wp2_with fail
      go_ret
      exact ⟨by rw [HA.out]; rfl, B⟩
theorem among_any (s : Str) (l : List Str) (hl : l.length = 6) (w : World) : Calls Tryz.prog 113 #[tx s, .agg (l.map tx).toArray] w fun e w' => e = .returned (.bool (s != [] && l.contains s)) ∧ Below w.heap.size w w' := among_row s l hl _ rfl _ rfl w
def cmpW : List Str := [[62], [60], [62, 61], [60, 61], [61, 61], [33, 61]]
def aggW : List Str := [[115, 117, 109], [109, 105, 110], [109, 97, 120], [99, 111, 117, 110, 116], [97, 118, 103], []]
theorem lv_cmp (s : Str) : (s != [] && cmpW.contains s) = (s == [62] || s == [60] || s == [62, 61] || s == [60, 61] || s == [61, 61] || s == [33, 61]) := by
  by_cases h : s = []
  · subst h; decide
  · have : (s != []) = true := by rw [bne_iff_ne]; exact h
    rw [this, Bool.true_and, Bool.eq_iff_iff]
    simp [cmpW, or_assoc]
theorem agg_w (s : Str) : (s != [] && aggW.contains s) = isAggB s := by
  unfold isAggB
  by_cases h : s = []
  · subst h; decide
  · have h1 : (s != []) = true := by rw [bne_iff_ne]; exact h
    rw [h1, Bool.true_and, Bool.eq_iff_iff]
    simp [aggW, or_assoc, h]
set_option maxHeartbeats 4000000 in
theorem level_any (s : Str) (w : World) : Calls Tryz.prog 67 #[tx s] w fun e w' => e = .returned (.int .i64 (lv s - 1)) ∧ Below w.heap.size w w' := by
  have ha := among_any s cmpW rfl w
  rw [lv_cmp] at ha
  simp only [cmpW, List.map_cons, List.map_nil] at ha
  have HV : Hid (lv s = if (s == [62] || s == [60] || s == [62, 61] || s == [60, 61] || s == [61, 61] || s == [33, 61]) = true then 1 else if (s == [43] || s == [45]) = true then 2 else if (s == [42] || s == [47]) = true then 3 else 0) := rfl
  generalize lv s = V at *
  generalize (s == [62] || s == [60] || s == [62, 61] || s == [60, 61] || s == [61, 61] || s == [33, 61]) = c at *
  cases c with
  | true =>
    go_enter Tryz.func67, Tryz.ntmps67
    go_wp2_with fail
    refine ha.mono ?_
    rintro e w1 ⟨rfl, b1⟩
    go_wp2_with fail
    go_ret
    exact ⟨by rw [HV.out]; rfl, b1⟩
  | false =>
    cases h1 : (s == [43]) with
    | true =>
      rw [h1] at HV
      go_enter Tryz.func67, Tryz.ntmps67
      go_wp2_with fail
      refine ha.mono ?_
      rintro e w1 ⟨rfl, b1⟩
      go_wp2_with fail
      go_ret
      exact ⟨by rw [HV.out]; rfl, b1⟩
    | false =>
      cases h2 : (s == [45]) with
      | true =>
        rw [h1, h2] at HV
        go_enter Tryz.func67, Tryz.ntmps67
        go_wp2_with fail
        refine ha.mono ?_
        rintro e w1 ⟨rfl, b1⟩
        go_wp2_with fail
        go_ret
        exact ⟨by rw [HV.out]; rfl, b1⟩
      | false =>
        cases h3 : (s == [42]) with
        | true =>
          rw [h1, h2, h3] at HV
          go_enter Tryz.func67, Tryz.ntmps67
          go_wp2_with fail
          refine ha.mono ?_
          rintro e w1 ⟨rfl, b1⟩
          go_wp2_with fail
          go_ret
          exact ⟨by rw [HV.out]; rfl, b1⟩
        | false =>
          cases h4 : (s == [47]) with
          | true =>
            rw [h1, h2, h3, h4] at HV
            go_enter Tryz.func67, Tryz.ntmps67
            go_wp2_with fail
            refine ha.mono ?_
            rintro e w1 ⟨rfl, b1⟩
            go_wp2_with fail
            go_ret
            exact ⟨by rw [HV.out]; rfl, b1⟩
          | false =>
            rw [h1, h2, h3, h4] at HV
            go_enter Tryz.func67, Tryz.ntmps67
            go_wp2_with fail
            refine ha.mono ?_
            rintro e w1 ⟨rfl, b1⟩
            go_wp2_with fail
            go_ret
            exact ⟨by rw [HV.out]; rfl, b1⟩
end Go.Proofs.YteankdaegdhfiaaGreatDoor
/- The reference: whether a name is a function's; what an operator makes of two types. -/
namespace Go.Proofs.YteankdaegdhfiaaGreatDoor
open Go.RowKit

def WL : List Str := [[114, 97, 116, 101], [105, 110, 99, 114, 101, 97, 115, 101], [100, 101, 108, 116, 97], [115, 117, 109, 95, 111, 118, 101, 114, 95, 116, 105, 109, 101], [97, 118, 103, 95, 111, 118, 101, 114, 95, 116, 105, 109, 101], [109, 105, 110, 95, 111, 118, 101, 114, 95, 116, 105, 109, 101], [109, 97, 120, 95, 111, 118, 101, 114, 95, 116, 105, 109, 101], [99, 111, 117, 110, 116, 95, 111, 118, 101, 114, 95, 116, 105, 109, 101], [108, 97, 115, 116, 95, 111, 118, 101, 114, 95, 116, 105, 109, 101]]
theorem knw_any (s : Str) : knw s = WL.any (fun u => u == s) := by
  rw [Bool.eq_iff_iff]
  simp only [knw, WL, List.any_cons, List.any_nil, Bool.or_false, Bool.or_eq_true, beq_iff_eq, or_assoc]
  simp only [eq_comm]
def wlA : Array Value := #[tx [114, 97, 116, 101], tx [105, 110, 99, 114, 101, 97, 115, 101], tx [100, 101, 108, 116, 97], tx [115, 117, 109, 95, 111, 118, 101, 114, 95, 116, 105, 109, 101], tx [97, 118, 103, 95, 111, 118, 101, 114, 95, 116, 105, 109, 101], tx [109, 105, 110, 95, 111, 118, 101, 114, 95, 116, 105, 109, 101], tx [109, 97, 120, 95, 111, 118, 101, 114, 95, 116, 105, 109, 101], tx [99, 111, 117, 110, 116, 95, 111, 118, 101, 114, 95, 116, 105, 109, 101], tx [108, 97, 115, 116, 95, 111, 118, 101, 114, 95, 116, 105, 109, 101]]
theorem inf102 : (Tryz.prog.info? 102).map (·.size) = some 9 := by kernel_rfl
theorem wlA_at (k : Nat) (h : k < 9) : wlA[k]? = some (tx (WL.getD k [])) := by
  match k, h with
  | 0, _ => rfl
  | 1, _ => rfl
  | 2, _ => rfl
  | 3, _ => rfl
  | 4, _ => rfl
  | 5, _ => rfl
  | 6, _ => rfl
  | 7, _ => rfl
  | 8, _ => rfl
abbrev zS9 : Array Value := #[tx [], tx [], tx [], tx [], tx [], tx [], tx [], tx [], tx []]
theorem wl_step (s : Str) (j : Nat) (h : j < 9) : (WL.take (j + 1)).any (fun u => u == s) = ((WL.take j).any (fun u => u == s) || (WL.getD j [] == s)) := by
  have hl : j < WL.length := h
  rw [List.take_add_one, List.any_append, List.getElem?_eq_getElem hl]
  simp [List.getD, List.getElem?_eq_getElem hl]
theorem wl_yes (s : Str) (j : Nat) (h : j < 9) (hq : (WL.getD j [] == s) = true) : knw s = true := by
  have hl : j < WL.length := h
  rw [knw_any, List.any_eq_true]
  refine ⟨WL[j], List.getElem_mem hl, ?_⟩
  simpa [List.getD, List.getElem?_eq_getElem hl] using hq
set_option maxHeartbeats 4000000 in
theorem rknown_any (s : Str) (w : World) : Calls Tryz.prog 35 #[tx s] w fun e w' => e = .returned (.bool (knw s)) ∧ Below w.heap.size w w' := by
  have z0 := heap_new w (.cells zS9 102)
  have Ba := bal (Below.refl w.heap.size w) (.cells zS9 102)
  have HE : Hid (WL.any (fun u => u == s) = knw s) := (knw_any s).symm
  have HY : Hid (∀ j, j < 9 → (WL.getD j [] == s) = true → knw s = true) := wl_yes s
  generalize knw s = RES at *
  go_enter Tryz.func35, Tryz.ntmps35
  go_wp2_with (refine wp_put rfl 102 _ _ rfl w.heap.size wlA rfl rfl _ 102 z0 9 inf102 rfl ⟨rfl, rfl⟩ ?_; intro w3 q3 o3 z3; clear z3)
  have D3 := ((Off.of Ba []).trans o3 (by simp)).below (by simp)
  clear z0 Ba o3
  go_loopw [4] (fun i wr => ∃ j : Nat, j ≤ 9 ∧ i = .int .i64 j ∧ wr = w3 ∧ Hid ((WL.take j).any (fun u => u == s) = false)) (fun i _ => 9 - (intOf i).toNat)
  case atStart => exact ⟨0, by omega, rfl, rfl, rfl⟩
  case round =>
    obtain ⟨j, hj, rfl, rfl, HA⟩ := hrel
    by_cases hlt : j < 9
    · have hlt' : (j : Int) < 9 := by omega
      have c := (cell_at q3 j).trans (wlA_at j hlt)
      have HS : Hid ((WL.take (j + 1)).any (fun u => u == s) = ((WL.take j).any (fun u => u == s) || (WL.getD j [] == s))) := wl_step s j hlt
      have HV : Hid ((WL.getD j [] == s) = true → RES = true) := HY.out j hlt
      generalize WL.getD j [] = u at *
      cases hq : (u == s) with
      | true =>
        have HR : Hid (RES = true) := HV.out hq
        clear HS HV HA
        go_wp2_with fail
        go_ret
        exact ⟨by rw [HR.out]; rfl, D3⟩
      | false =>
        have HR : Hid ((WL.take (j + 1)).any (fun u => u == s) = false) := by show _ = _; rw [HS.out, HA.out, hq]; rfl
        clear HS HV HA
        go_wp2_with fail
        go_roundw
        case rel => exact ⟨j + 1, by omega, by go_num, by trivial, HR⟩
        case measure => simp [intOf]; omega
    · have hlt' : ¬ (j : Int) < 9 := by omega
      have HR : Hid (RES = false) := by
        have h2 := HA.out
        rw [List.take_of_length_le (show WL.length ≤ j by show 9 ≤ j; omega)] at h2
        show _ = _
        rw [← HE.out, h2]
      clear HA
      go_wp2_with fail
      go_ret
      exact ⟨by rw [HR.out]; rfl, D3⟩
theorem cmp_lv (s : Str) : cmpB s = (lv s == 1) := by
  unfold lv
  cases h : cmpB s with
  | true =>
    unfold cmpB at h
    rw [if_pos h]
    rfl
  | false =>
    unfold cmpB at h
    rw [if_neg (by rw [h]; simp)]
    repeat' split
    all_goals rfl
/-- What an operator makes of two types. -/
def binT (p : Int) (b3 b4 : Bool) (s : Str) (pa pb ta tb : Int) : Ty :=
  if ta = 3 then (0, pa, 90) else if tb = 3 then (0, pb, 90)
  else if ((ta == 1 && tb == 1) && cmpB s || (b3 || b4) && !(ta == 2 && tb == 2)) = true then (0, p, 90)
  else if (ta == 1 && tb == 1) = true then (1, 0, 0) else (2, 0, 0)
end Go.Proofs.YteankdaegdhfiaaGreatDoor
/- The reference: the type of what an operator makes. -/
namespace Go.Proofs.YteankdaegdhfiaaGreatDoor
open Go.RowKit

def two (a b : Int) (j : Nat) : Int := if j = 0 then a else b
set_option maxHeartbeats 8000000 in
set_option maxRecDepth 20000 in
theorem rbin_row (k p : Int) (o : Bool) (v : Int) (s : Str) (am an : Option Addr) (nm cm nn cn cap b off : Nat) (r : Int) (b1 b2 b3 b4 : Bool) (pa pb ta tb : Int) (w : World) (hta : ta = 1 ∨ ta = 2 ∨ ta = 3) (htb : tb = 1 ∨ tb = 2 ∨ tb = 3) (ha : w.cell? ⟨b, off + 0 * 13 + 1, none⟩ = some (iv pa)) (hb : w.cell? ⟨b, off + 1 * 13 + 1, none⟩ = some (iv pb)) :
    Calls Tryz.prog 94 #[.agg (exA k p o v s (.slice am nm cm) r b1 b2 b3 b4 (.slice an nn cn) (.slice (some ⟨b, off, none⟩) 2 cap)), .agg #[iv ta, iv tb]] w fun e w' => e = .returned (tyV (binT p b3 b4 s pa pb ta tb)) ∧ Below w.heap.size w w' := by
  have B1 := bal (bal (Below.refl w.heap.size w) (.cells (exA k p o v s (.slice am nm cm) r b1 b2 b3 b4 (.slice an nn cn) (.slice (some ⟨b, off, none⟩) 2 cap)) 29)) (.cells #[iv ta, iv tb] 141)
  have q := new_heap (heap_new w (.cells (exA k p o v s (.slice am nm cm) r b1 b2 b3 b4 (.slice an nn cn) (.slice (some ⟨b, off, none⟩) 2 cap)) 29)) (.cells #[iv ta, iv tb] 141)
  have qt : ((w.alloc (.cells (exA k p o v s (.slice am nm cm) r b1 b2 b3 b4 (.slice an nn cn) (.slice (some ⟨b, off, none⟩) 2 cap)) 29)).alloc (.cells #[iv ta, iv tb] 141)).heap[w.heap.size + 1]? = some (.cells #[iv ta, iv tb] 141) := by
    have h := heap_new (w.alloc (.cells (exA k p o v s (.slice am nm cm) r b1 b2 b3 b4 (.slice an nn cn) (.slice (some ⟨b, off, none⟩) 2 cap)) 29)) (.cells #[iv ta, iv tb] 141)
    rw [size_new] at h
    exact h
  have hk0 := (Off.of B1 []).cell ha (by simp)
  have hk1 := (Off.of B1 []).cell hb (by simp)
  have hle := fun W => level_any s W
  have hcl : cmpB s = (lv s == 1) := cmp_lv s
  obtain ⟨RES, HRES⟩ : ∃ z, Hid (binT p b3 b4 s pa pb ta tb = z) := ⟨binT p b3 b4 s pa pb ta tb, rfl⟩
  rw [HRES.out]
  clear ha hb
  obtain ⟨R1, R2, R3⟩ := RES
  go_enter Tryz.func94, Tryz.ntmps94
  go_upto_region 1 with fail
  generalize (w.alloc (.cells (exA k p o v s (.slice am nm cm) r b1 b2 b3 b4 (.slice an nn cn) (.slice (some ⟨b, off, none⟩) 2 cap)) 29)).alloc (.cells #[iv ta, iv tb] 141) = w1 at *
  have HKD : Hid (∀ j, j < 2 → w1.cell? ⟨b, off + j * 13 + 1, none⟩ = some (iv (two pa pb j))) := fun j hj => by
    rcases (by omega : j = 0 ∨ j = 1) with rfl | rfl
    · exact hk0
    · exact hk1
  have HTD : Hid (∀ j, j < 2 → w1.cell? ⟨w.heap.size + 1, j, none⟩ = some (iv (two ta tb j))) := fun j hj => by
    rcases (by omega : j = 0 ∨ j = 1) with rfl | rfl
    · exact (cell_at qt 0).trans rfl
    · exact (cell_at qt 1).trans rfl
  have x12 := (cell_at q 12).trans rfl
  clear hk0 hk1
  go_wp2_with fail
  go_loopw [7] (fun i wr => ∃ j : Nat, j ≤ 2 ∧ i = .int .i64 j ∧ wr = w1 ∧ Hid (∀ m, m < j → two ta tb m ≠ 3)) (fun i _ => 2 - (intOf i).toNat)
  case atStart => exact ⟨0, by omega, rfl, rfl, fun m hm => by omega⟩
  case round =>
    obtain ⟨j, hj, rfl, rfl, HA⟩ := hrel
    by_cases hlt : j < 2
    · have hlt' : (j : Int) < 2 := by omega
      have ct := HTD.out j hlt
      have ck := HKD.out j hlt
      by_cases h3 : two ta tb j = 3
      · have HR : Hid ((R1, R2, R3) = (0, two pa pb j, 90)) := by
          show _ = _
          rw [← HRES.out]
          rcases (by omega : j = 0 ∨ j = 1) with rfl | rfl
          · have : ta = 3 := h3
            rw [binT, if_pos this]
            rfl
          · have h1 : ta ≠ 3 := HA.out 0 (by omega)
            have : tb = 3 := h3
            rw [binT, if_neg h1, if_pos this]
            rfl
        have t3 : (two ta tb j == 3) = true := beq_iff_eq.2 h3
        clear HA HRES h3 HKD HTD
        generalize two ta tb j = U at *
        generalize two pa pb j = Y at *
        go_wp2_with fail
        go_quiet (fail)
        go_wp2_with fail
        go_ret3
        exact ⟨by rw [HR.out]; rfl, below_drewN B1 _⟩
      · have HR : Hid (∀ m, m < j + 1 → two ta tb m ≠ 3) := fun m hm => by
          rcases (by omega : m < j ∨ m = j) with h | rfl
          · exact HA.out m h
          · exact h3
        have t3 : (two ta tb j == 3) = false := beq_eq_false_iff_ne.2 h3
        clear HA h3
        generalize two ta tb j = U at *
        go_wp2_with fail
        go_roundw
        case rel => exact ⟨j + 1, by omega, by go_num, by trivial, HR⟩
        case measure => simp [intOf]; omega
    · have hlt' : ¬ (j : Int) < 2 := by omega
      have na : ta ≠ 3 := HA.out 0 (by omega)
      have nb : tb ≠ 3 := HA.out 1 (by omega)
      have HR : Hid ((R1, R2, R3) = if ((ta == 1 && tb == 1) && cmpB s || (b3 || b4) && !(ta == 2 && tb == 2)) = true then (0, p, 90) else if (ta == 1 && tb == 1) = true then (1, 0, 0) else (2, 0, 0)) := by
        show _ = _
        rw [← HRES.out, binT, if_neg na, if_neg nb]
      have ya := (cell_at qt 0).trans rfl
      have yb := (cell_at qt 1).trans rfl
      have x1 := (cell_at q 1).trans rfl
      have x4 := (cell_at q 4).trans rfl
      have x9 := (cell_at q 9).trans rfl
      have x10 := (cell_at q 10).trans rfl
      clear HA HRES HKD HTD x12
      rcases hta with rfl | rfl | rfl
      · rcases htb with rfl | rfl | rfl
        · rw [hcl] at HR
          generalize hL : lv s = L at *
          cases hc : (L == 1) with
          | true =>
            rw [hc] at HR
            have hl0 : (L - 1 == 0) = true := by rw [beq_iff_eq] at hc ⊢; omega
            go_wp2_with fail
            refine (hle _).mono ?_
            rintro e w5 ⟨rfl, b5⟩
            have BB := B1.trans (b5.mono B1.size)
            have z1 := (cell_at (below_heap b5 q) 1).trans rfl
            have z9 := (cell_at (below_heap b5 q) 9).trans rfl
            have z10 := (cell_at (below_heap b5 q) 10).trans rfl
            go_wp2_with fail
            go_quiet (fail)
            go_wp2_with fail
            go_ret3
            exact ⟨by rw [HR.out]; rfl, below_drewN BB _⟩
          | false =>
            rw [hc] at HR
            have hl0 : (L - 1 == 0) = false := by rw [beq_eq_false_iff_ne] at hc ⊢; omega
            cases b3 with
            | true =>
              go_wp2_with fail
              refine (hle _).mono ?_
              rintro e w5 ⟨rfl, b5⟩
              have BB := B1.trans (b5.mono B1.size)
              have z1 := (cell_at (below_heap b5 q) 1).trans rfl
              have z9 := (cell_at (below_heap b5 q) 9).trans rfl
              have z10 := (cell_at (below_heap b5 q) 10).trans rfl
              go_wp2_with fail
              go_quiet (fail)
              go_wp2_with fail
              go_ret3
              exact ⟨by rw [HR.out]; rfl, below_drewN BB _⟩
            | false =>
              cases b4 with
              | true =>
                go_wp2_with fail
                refine (hle _).mono ?_
                rintro e w5 ⟨rfl, b5⟩
                have BB := B1.trans (b5.mono B1.size)
                have z1 := (cell_at (below_heap b5 q) 1).trans rfl
                have z9 := (cell_at (below_heap b5 q) 9).trans rfl
                have z10 := (cell_at (below_heap b5 q) 10).trans rfl
                go_wp2_with fail
                go_quiet (fail)
                go_wp2_with fail
                go_ret3
                exact ⟨by rw [HR.out]; rfl, below_drewN BB _⟩
              | false =>
                go_wp2_with fail
                refine (hle _).mono ?_
                rintro e w5 ⟨rfl, b5⟩
                have BB := B1.trans (b5.mono B1.size)
                have z1 := (cell_at (below_heap b5 q) 1).trans rfl
                have z9 := (cell_at (below_heap b5 q) 9).trans rfl
                have z10 := (cell_at (below_heap b5 q) 10).trans rfl
                go_wp2_with fail
                go_ret3
                exact ⟨by rw [HR.out]; rfl, BB⟩
        · cases b3 with
          | true =>
            have BB := B1
            go_wp2_with fail
            go_quiet (fail)
            go_wp2_with fail
            go_ret3
            exact ⟨by rw [HR.out]; rfl, below_drewN BB _⟩
          | false =>
            cases b4 with
            | true =>
              have BB := B1
              go_wp2_with fail
              go_quiet (fail)
              go_wp2_with fail
              go_ret3
              exact ⟨by rw [HR.out]; rfl, below_drewN BB _⟩
            | false =>
              have BB := B1
              go_wp2_with fail
              go_ret3
              exact ⟨by rw [HR.out]; rfl, BB⟩
        · exact absurd rfl nb
      · rcases htb with rfl | rfl | rfl
        · cases b3 with
          | true =>
            have BB := B1
            go_wp2_with fail
            go_quiet (fail)
            go_wp2_with fail
            go_ret3
            exact ⟨by rw [HR.out]; rfl, below_drewN BB _⟩
          | false =>
            cases b4 with
            | true =>
              have BB := B1
              go_wp2_with fail
              go_quiet (fail)
              go_wp2_with fail
              go_ret3
              exact ⟨by rw [HR.out]; rfl, below_drewN BB _⟩
            | false =>
              have BB := B1
              go_wp2_with fail
              go_ret3
              exact ⟨by rw [HR.out]; rfl, BB⟩
        · cases b3 with
          | true =>
            have BB := B1
            go_wp2_with fail
            go_ret3
            exact ⟨by rw [HR.out]; rfl, BB⟩
          | false =>
            cases b4 with
            | true =>
              have BB := B1
              go_wp2_with fail
              go_ret3
              exact ⟨by rw [HR.out]; rfl, BB⟩
            | false =>
              have BB := B1
              go_wp2_with fail
              go_ret3
              exact ⟨by rw [HR.out]; rfl, BB⟩
        · exact absurd rfl nb
      · exact absurd rfl na
end Go.Proofs.YteankdaegdhfiaaGreatDoor
/- What comes of an expression's kids, kind by kind: in plain words. -/
namespace Go.Proofs.YteankdaegdhfiaaGreatDoor
open Go.RowKit

theorem two_ks {l : List Ex} (h : l.length = 2) : ∃ x y, l = [x, y] := by
  match l, h with
  | [x, y], _ => exact ⟨x, y, rfl⟩
theorem snd_kind {e : Ex} (h : sndE e = true) : (e.k = 1 ∧ e.ks = []) ∨ (e.k = 2 ∧ e.ks = []) ∨ (e.k = 3 ∧ ∃ x, e.ks = [x]) ∨ (e.k = 4 ∧ ∃ x, e.ks = [x]) ∨ (e.k = 5 ∧ ∃ x y, e.ks = [x, y]) ∨ (e.k = 6 ∧ ∃ x, e.ks = [x]) := by
  rw [sndE_eq, Bool.and_eq_true, Bool.and_eq_true] at h
  obtain ⟨⟨_, hk⟩, _⟩ := h
  unfold kindE at hk
  by_cases h1 : e.k = 1
  · rw [h1] at hk
    simp [fK] at hk
    exact Or.inl ⟨h1, hk.1.1.1⟩
  · by_cases h2 : e.k = 2
    · rw [h2] at hk
      simp [fK] at hk
      exact Or.inr (Or.inl ⟨h2, hk.1.1.1⟩)
    · by_cases h3 : e.k = 3
      · rw [h3] at hk
        simp [fK] at hk
        exact Or.inr (Or.inr (Or.inl ⟨h3, List.length_eq_one_iff.1 hk.1⟩))
      · by_cases h4 : e.k = 4
        · rw [h4] at hk
          simp [fK] at hk
          exact Or.inr (Or.inr (Or.inr (Or.inl ⟨h4, List.length_eq_one_iff.1 hk.1.1⟩)))
        · by_cases h5 : e.k = 5
          · rw [h5] at hk
            simp [fK] at hk
            exact Or.inr (Or.inr (Or.inr (Or.inr (Or.inl ⟨h5, two_ks hk.1.1⟩))))
          · by_cases h6 : e.k = 6
            · rw [h6] at hk
              simp [fK] at hk
              exact Or.inr (Or.inr (Or.inr (Or.inr (Or.inr ⟨h6, List.length_eq_one_iff.1 hk⟩))))
            · simp [fK, h1, h2, h3, h4, h5, h6] at hk
theorem fit1 (e : Ex) (h : e.k = 1) (hk : e.ks = []) : fitT e (kt e.ks) = (1, 0, 0) := by
  unfold fitT
  rw [hk, h]
  rfl
theorem fit2 (e : Ex) (h : e.k = 2) (hk : e.ks = []) : fitT e (kt e.ks) = if 0 < e.r then (3, 0, 0) else (2, 0, 0) := by
  unfold fitT
  rw [hk, h]
  show (if (2 : Int) = 5 ∧ _ then _ else (isT 2 e.r [], 0, 0)) = _
  rw [if_neg (by simp)]
  unfold isT
  rw [if_neg (by decide), if_pos rfl]
  split <;> rfl
theorem fit3 (e x : Ex) (h : e.k = 3) (hk : e.ks = [x]) : fitT e (kt e.ks) = if (tyE x).1 = 3 then (2, 0, 0) else (0, x.p, 90) := by
  unfold fitT
  rw [hk, h]
  by_cases h3 : (tyE x).1 = 3
  · simp [kt, misP, takesB, h3, isT]
  · simp [kt, misP, takesB, h3]
theorem fit4 (e x : Ex) (h : e.k = 4) (hk : e.ks = [x]) : fitT e (kt e.ks) = if (tyE x).1 = 2 then (2, 0, 0) else (0, x.p, 90) := by
  unfold fitT
  rw [hk, h]
  by_cases h3 : (tyE x).1 = 2
  · simp [kt, misP, takesB, h3, isT]
  · simp [kt, misP, takesB, h3]
theorem fit6 (e x : Ex) (h : e.k = 6) (hk : e.ks = [x]) (hx : (tyE x).1 = 1 ∨ (tyE x).1 = 2 ∨ (tyE x).1 = 3) : fitT e (kt e.ks) = if (tyE x).1 = 3 then (0, x.p, 90) else ((tyE x).1, 0, 0) := by
  unfold fitT
  rw [hk, h]
  rcases hx with h1 | h1 | h1 <;> simp [kt, misP, takesB, h1, isT, allT]
theorem fit5 (e x y : Ex) (h : e.k = 5) (hk : e.ks = [x, y]) (hx : (tyE x).1 = 1 ∨ (tyE x).1 = 2 ∨ (tyE x).1 = 3) (hy : (tyE y).1 = 1 ∨ (tyE y).1 = 2 ∨ (tyE y).1 = 3) : fitT e (kt e.ks) = binT e.p e.b3 e.b4 e.s x.p y.p (tyE x).1 (tyE y).1 := by
  unfold fitT binT
  rw [hk, h]
  rcases hx with h1 | h1 | h1 <;> rcases hy with g1 | g1 | g1 <;> simp only [kt, List.map_cons, List.map_nil, misP, takesB, h1, g1, joinsB, allT, isT] <;> generalize cmpB e.s = C <;> generalize e.b3 = D <;> generalize e.b4 = E <;> cases C <;> cases D <;> cases E <;> simp
theorem bad_kids {l : List Ex} (h : tysO l = none) : ∀ x ∈ l, (tyE x).1 = 1 ∨ (tyE x).1 = 2 ∨ (tyE x).1 = 3 := by
  induction l with
  | nil => intro x hx; cases hx
  | cons y l ih =>
    unfold tysO at h
    rw [List.map_cons, badT] at h
    split at h
    · rename_i h0
      intro x hx
      rcases List.mem_cons.1 hx with rfl | hx
      · rcases tyE_in x with ⟨h1, _⟩ | ⟨_, h3⟩
        · exact h1
        · exact absurd h0 h3
      · exact ih h x hx
    · cases h
/-- The types of the first ones. -/
def tA (l : List Ex) (j : Nat) : Array Value := #[iv (if 0 < j then (kt l).getD 0 0 else 0), iv (if 1 < j then (kt l).getD 1 0 else 0)]
theorem tA_step (l : List Ex) (j : Nat) (x : Ex) (h : l[j]? = some x) (hj : j < 2) : (tA l j).setIfInBounds j (iv (tyE x).1) = tA l (j + 1) := by
  have e : (kt l).getD j 0 = (tyE x).1 := by simp [kt, List.getD, h]
  rcases (by omega : j = 0 ∨ j = 1) with rfl | rfl
  · rw [← e]; rfl
  · rw [← e]; rfl
theorem tA_size (l : List Ex) (j : Nat) : (tA l j).size = 2 := rfl
end Go.Proofs.YteankdaegdhfiaaGreatDoor
/- The reference: the type of an expression. -/
namespace Go.Proofs.YteankdaegdhfiaaGreatDoor
open Go.RowKit

theorem inf141 : (Tryz.prog.info? 141).map (·.size) = some 2 := by kernel_rfl
def RTyOK (P : Nat → Prop) (e : Ex) : Prop := Sm e → sndE e = true → ∀ (w : World) (cs : Array Value), TrP P w e cs → Calls Tryz.prog 59 #[.agg cs] w fun x w' => x = .returned (tyV (tyE e)) ∧ Below w.heap.size w w'
/-- A kid's place, where it lies. -/
theorem Kid.at1 {P : Nat → Prop} {w : World} {b off i : Nat} {x : Ex} {ci : Array Value} (h : Kid P w b off i x ci) : w.cell? ⟨b, off + i * 13 + 1, none⟩ = some (iv x.p) := by
  obtain ⟨vm, vn, ao, cap, ec, _⟩ := h.t.parts
  exact h.r 1 (iv x.p) (by rw [ec]; rfl)
set_option maxHeartbeats 16000000 in
set_option maxRecDepth 20000 in
theorem rty_ok {P : Nat → Prop} (e : Ex) : RTyOK P e := by
  refine Ex.ind (RTyOK P) ?_ e
  intro e ih hs hsnd w cs h
  obtain ⟨_, _, _, _, _, _, s7⟩ := (Sm_eq e).1 hs
  obtain ⟨hl2, hdk⟩ := snd_len hsnd
  have HKI : Hid _ := snd_kind hsnd
  have HTr : Hid _ := h
  obtain ⟨vm, vn, ao, cap, rfl, sm, sn, hcap, hkid⟩ := h.parts
  obtain ⟨am, cm, rfl, _⟩ := id sm
  obtain ⟨an, cn, rfl, _⟩ := id sn
  obtain ⟨n, hn⟩ : ∃ n, e.ks.length = n := ⟨_, rfl⟩
  have HN : Hid (e.ks.length = n) := hn
  rw [hn] at HTr ⊢
  have hn2 : n ≤ 2 := by omega
  have HK : Hid _ := hkid
  have HI : Hid _ := ih
  have HM : Hid _ := s7
  have HD : Hid _ := hdk
  have hkw := fun W => rknown_any e.s W
  have HE : Hid (tyE e = if e.k = 3 ∧ knw e.s = false then (0, e.p, 91) else match tysO e.ks with
    | some b => (0, b.1, b.2)
    | none => fitT e (kt e.ks)) := by
    show _ = _
    rw [tyE_eq, tyG, kt_eq]
    rfl
  obtain ⟨RES, HRES⟩ : ∃ z, Hid (tyE e = z) := ⟨tyE e, rfl⟩
  rw [HRES.out]
  obtain ⟨R1, R2, R3⟩ := RES
  have q := heap_new w (.cells (exA e.k e.p e.o e.v e.s (.slice am e.m.length cm) e.r e.b1 e.b2 e.b3 e.b4 (.slice an e.ns.length cn) (.slice ao n cap)) 29)
  have B1 := bal (Below.refl w.heap.size w) (.cells (exA e.k e.p e.o e.v e.s (.slice am e.m.length cm) e.r e.b1 e.b2 e.b3 e.b4 (.slice an e.ns.length cn) (.slice ao n cap)) 29)
  clear ih hs hsnd h s7 hdk sm sn hcap hkid hl2 hn
  go_enter Tryz.func59, Tryz.ntmps59
  go_upto_region 1 with fail
  generalize w.alloc (.cells (exA e.k e.p e.o e.v e.s (.slice am e.m.length cm) e.r e.b1 e.b2 e.b3 e.b4 (.slice an e.ns.length cn) (.slice ao n cap)) 29) = w1 at *
  have x0 := (cell_at q 0).trans rfl
  have x4 := (cell_at q 4).trans rfl
  by_cases h3 : e.k = 3 ∧ knw e.s = false
  · have HR : Hid ((R1, R2, R3) = (0, e.p, 91)) := by show _ = _; rw [← HRES.out, HE.out, if_pos h3]
    obtain ⟨hk, hw⟩ := h3
    have tk : (e.k == 3) = true := beq_iff_eq.2 hk
    simp only [hw] at hkw
    clear HE HRES hk hw HI HK HM HD HTr
    go_wp2_with fail
    refine (hkw _).mono ?_
    rintro x w2 ⟨rfl, b2⟩
    have x1 := (cell_at (below_heap b2 q) 1).trans rfl
    have B2 := B1.trans (b2.mono B1.size)
    go_wp2_with fail
    go_quiet (fail)
    go_wp2_with fail
    go_ret3
    exact ⟨by rw [HR.out]; rfl, below_drewN B2 _⟩
  · have HE2 : Hid ((R1, R2, R3) = match tysO e.ks with
      | some b => (0, b.1, b.2)
      | none => fitT e (kt e.ks)) := by show _ = _; rw [← HRES.out, HE.out, if_neg h3]
    go_cut [18] from 10 to 17 (fun a wr => a = .bool false ∧ Below w1.heap.size w1 wr)
    case first =>
      by_cases hk : e.k = 3
      · have hw : knw e.s = true := by
          cases hq : knw e.s with
          | true => rfl
          | false => exact absurd ⟨hk, hq⟩ h3
        have tk : (e.k == 3) = true := beq_iff_eq.2 hk
        simp only [hw] at hkw
        clear HE HRES hk hw HI HK HM HD HTr HE2 h3
        go_wp2_with fail
        refine (hkw _).mono ?_
        rintro x w2 ⟨rfl, b2⟩
        go_wp2_with fail
        go_meet
        case rel => exact ⟨rfl, b2⟩
      · have tk : (e.k == 3) = false := beq_eq_false_iff_ne.2 hk
        clear HE HRES hk HI HK HM HD HTr HE2 h3
        go_wp2_with fail
        go_meet
        case rel => exact ⟨rfl, Below.refl _ _⟩
    case rest =>
      obtain ⟨rfl, C⟩ := hcut
      have B2 := B1.trans (C.mono B1.size)
      have q2 := below_heap C q
      have zz := B2.size
      clear x0 x4 hkw h3 HE HRES q
      have B3 := bal B2 (.cells #[iv 0, iv 0] 141)
      have q3 := new_heap q2 (.cells #[iv 0, iv 0] 141)
      have t3 := heap_new wc (.cells #[iv 0, iv 0] 141)
      have s3 := size_le wc (.cells #[iv 0, iv 0] 141)
      have hw3 := lt_of_heap q2
      go_upto_region 4 with fail
      generalize wc.alloc (.cells #[iv 0, iv 0] 141) = w3 at *
      generalize wc.heap.size = tb at *
      go_wp2_with fail
      go_loopw [6] (fun i wr => ∃ j : Nat, j ≤ n ∧ i = .int .i64 j ∧ wr.heap[tb]? = some (.cells (tA e.ks j) 141) ∧ wr.heap[w.heap.size]? = some (.cells (exA e.k e.p e.o e.v e.s (.slice am e.m.length cm) e.r e.b1 e.b2 e.b3 e.b4 (.slice an e.ns.length cn) (.slice ao n cap)) 29) ∧ Below w.heap.size w wr ∧ Hid (badT ((e.ks.take j).map tyE) = none)) (fun i _ => n - (intOf i).toNat)
      case atStart => exact ⟨0, by omega, rfl, t3, q3, B3, rfl⟩
      case round =>
        clear B3 q3 t3 s3
        obtain ⟨j, hj, rfl, qt, qb, B, HB⟩ := hrel
        have x12 := (cell_at qb 12).trans rfl
        by_cases hlt : j < n
        · have hlt' : (j : Int) < n := by omega
          obtain ⟨x, hx⟩ : ∃ x, e.ks[j]? = some x := ⟨_, List.getElem?_eq_getElem (by have := HN.out; omega)⟩
          obtain ⟨b, off, ci, ea, kd⟩ := HK.out j x hx
          have kd1 := kd.later B
          have row := kd1.t.row
          subst ea
          have his := fun W hW => HI.out x (List.mem_of_getElem? hx) (HM.out x (List.mem_of_getElem? hx)) (HD.out x (List.mem_of_getElem? hx)) W ci hW
          have HY : Hid (badT ((e.ks.take (j + 1)).map tyE) = (if (tyE x).2.2 = 0 then none else some (tyE x).2)) := tysO_step _ _ _ hx HB.out
          have HZ : Hid ((tyE x).2.2 ≠ 0 → tysO e.ks = some (tyE x).2) := tysO_bad _ _ _ hx HB.out
          have HT : Hid ((tA e.ks j).setIfInBounds j (iv (tyE x).1) = tA e.ks (j + 1)) := tA_step e.ks j x hx (by omega)
          have hbw := kd1.lt
          have sz2 := tA_size e.ks j
          clear hx kd
          generalize tyE x = TX at *
          obtain ⟨t1, t2, t3⟩ := TX
          by_cases h0 : t3 = 0
          · subst h0
            have HY2 : Hid (badT ((e.ks.take (j + 1)).map tyE) = none) := HY.out
            clear HZ HY
            go_wp2_with (refine wp_getm rfl _ rfl b (off + j * 13) ci rfl kd1.r row.1 ?_)
            refine (his _ kd1.t).mono ?_
            rintro x' w6 ⟨rfl, b6⟩
            have qt6 := below_heap b6 qt
            have qb6 := below_heap b6 qb
            have B6 := B.trans (b6.mono B.size)
            go_upto_region 10 with fail
            go_wp2_with (refine wp_st rfl 3 _ _ rfl tb j (iv t1) rfl rfl (tA e.ks j) 141 qt6 (by rw [sz2]; omega) inf3 rfl (tA e.ks (j + 1)) HT.out ?_; intro w7 q7 o7 z7; clear z7)
            go_roundw
            case rel => exact ⟨j + 1, by omega, by go_num, q7, o7.heap qb6 (by simp <;> omega), ((Off.of B6 []).trans o7 (by simp <;> omega)).below (by simp), HY2⟩
            case measure => simp [intOf]; omega
          · have HR : Hid ((R1, R2, R3) = (0, t2, t3)) := by
              show _ = _
              rw [HE2.out, HZ.out h0]
            have n0 : (t3 != 0) = true := by rw [bne_iff_ne]; exact h0
            have n1 : (t3 == 0) = false := beq_eq_false_iff_ne.2 h0
            clear HZ HY HE2 HT h0
            go_wp2_with (refine wp_getm rfl _ rfl b (off + j * 13) ci rfl kd1.r row.1 ?_)
            refine (his _ kd1.t).mono ?_
            rintro x' w6 ⟨rfl, b6⟩
            go_wp2_with fail
            go_ret3
            exact ⟨by rw [HR.out]; rfl, B.trans (b6.mono B.size)⟩
        · have hlt' : ¬ (j : Int) < n := by omega
          have hjn : j = n := by omega
          have HO : tysO e.ks = none := by
            have h2 := HB.out
            rw [List.take_of_length_le (by have := HN.out; omega)] at h2
            exact h2
          have HF : Hid ((R1, R2, R3) = fitT e (kt e.ks)) := by show _ = _; rw [HE2.out, HO]
          have HBK : Hid (∀ x ∈ e.ks, (tyE x).1 = 1 ∨ (tyE x).1 = 2 ∨ (tyE x).1 = 3) := bad_kids HO
          clear HE2 HB HO
          rw [hjn] at qt
          have NJ : Hid (j = n) := hjn
          clear hjn
          have x0 := (cell_at qb 0).trans rfl
          have x6 := (cell_at qb 6).trans rfl
          rcases HKI.out with ⟨hk, he⟩ | ⟨hk, he⟩ | ⟨hk, x, he⟩ | ⟨hk, x, he⟩ | ⟨hk, x, y, he⟩ | ⟨hk, x, he⟩
          · have HR : Hid ((R1, R2, R3) = (1, 0, 0)) := HF.out.trans (fit1 e hk he)
            have k1 : (e.k == 1) = true := by rw [beq_iff_eq]; exact hk
            have k2 : (e.k == 2) = false := by rw [beq_eq_false_iff_ne, hk]; decide
            have k3 : (e.k == 3) = false := by rw [beq_eq_false_iff_ne, hk]; decide
            have k4 : (e.k == 4) = false := by rw [beq_eq_false_iff_ne, hk]; decide
            have k5 : (e.k == 5) = false := by rw [beq_eq_false_iff_ne, hk]; decide
            clear hk he HF HBK HKI HI HK HM HD HTr HN NJ
            go_wp2_with fail
            go_ret3
            exact ⟨by rw [HR.out]; rfl, B⟩
          · have HR : Hid ((R1, R2, R3) = if 0 < e.r then (3, 0, 0) else (2, 0, 0)) := HF.out.trans (fit2 e hk he)
            have k1 : (e.k == 1) = false := by rw [beq_eq_false_iff_ne, hk]; decide
            have k2 : (e.k == 2) = true := by rw [beq_iff_eq]; exact hk
            have k3 : (e.k == 3) = false := by rw [beq_eq_false_iff_ne, hk]; decide
            have k4 : (e.k == 4) = false := by rw [beq_eq_false_iff_ne, hk]; decide
            have k5 : (e.k == 5) = false := by rw [beq_eq_false_iff_ne, hk]; decide
            clear hk he HF HBK HKI HI HK HM HD HTr HN NJ
            by_cases hr : 0 < e.r
            · have HR2 : Hid ((R1, R2, R3) = (3, 0, 0)) := HR.out.trans (if_pos hr)
              clear HR
              go_wp2_with fail
              go_ret3
              exact ⟨by rw [HR2.out]; rfl, B⟩
            · have HR2 : Hid ((R1, R2, R3) = (2, 0, 0)) := HR.out.trans (if_neg hr)
              clear HR
              go_wp2_with fail
              go_ret3
              exact ⟨by rw [HR2.out]; rfl, B⟩
          · have HR : Hid ((R1, R2, R3) = if (tyE x).1 = 3 then (2, 0, 0) else (0, x.p, 90)) := HF.out.trans (fit3 e x hk he)
            have k1 : (e.k == 1) = false := by rw [beq_eq_false_iff_ne, hk]; decide
            have k2 : (e.k == 2) = false := by rw [beq_eq_false_iff_ne, hk]; decide
            have k3 : (e.k == 3) = true := by rw [beq_iff_eq]; exact hk
            have k4 : (e.k == 4) = false := by rw [beq_eq_false_iff_ne, hk]; decide
            have k5 : (e.k == 5) = false := by rw [beq_eq_false_iff_ne, hk]; decide
            obtain rfl : n = 1 := by rw [← HN.out, he]; rfl
            obtain ⟨b, off, ci, ea, kd⟩ := HK.out 0 x (by rw [he]; rfl)
            subst ea
            have ck : wr.cell? ⟨b, off + 1, none⟩ = some (iv x.p) := by simpa using (kd.later B).at1
            have y0 : wr.cell? ⟨tb, 0, none⟩ = some (iv (tyE x).1) := (cell_at qt 0).trans (by rw [he]; rfl)
            clear hk he HF HBK HKI HI HK HM HD HTr HN NJ
            generalize (tyE x).1 = T at *
            by_cases hT : T = 3
            · have HR2 : Hid ((R1, R2, R3) = (2, 0, 0)) := HR.out.trans (if_pos hT)
              have t1 : (T == 3) = true := beq_iff_eq.2 hT
              have t2 : (T != 3) = false := by rw [bne, t1]; rfl
              clear HR hT
              go_wp2_with fail
              go_ret3
              exact ⟨by rw [HR2.out]; rfl, B⟩
            · have HR2 : Hid ((R1, R2, R3) = (0, x.p, 90)) := HR.out.trans (if_neg hT)
              have t1 : (T == 3) = false := beq_eq_false_iff_ne.2 hT
              have t2 : (T != 3) = true := by rw [bne, t1]; rfl
              clear HR hT
              go_wp2_with fail
              go_quiet (fail)
              go_wp2_with fail
              go_ret3
              exact ⟨by rw [HR2.out]; rfl, below_drewN B _⟩
          · have HR : Hid ((R1, R2, R3) = if (tyE x).1 = 2 then (2, 0, 0) else (0, x.p, 90)) := HF.out.trans (fit4 e x hk he)
            have k1 : (e.k == 1) = false := by rw [beq_eq_false_iff_ne, hk]; decide
            have k2 : (e.k == 2) = false := by rw [beq_eq_false_iff_ne, hk]; decide
            have k3 : (e.k == 3) = false := by rw [beq_eq_false_iff_ne, hk]; decide
            have k4 : (e.k == 4) = true := by rw [beq_iff_eq]; exact hk
            have k5 : (e.k == 5) = false := by rw [beq_eq_false_iff_ne, hk]; decide
            obtain rfl : n = 1 := by rw [← HN.out, he]; rfl
            obtain ⟨b, off, ci, ea, kd⟩ := HK.out 0 x (by rw [he]; rfl)
            subst ea
            have ck : wr.cell? ⟨b, off + 1, none⟩ = some (iv x.p) := by simpa using (kd.later B).at1
            have y0 : wr.cell? ⟨tb, 0, none⟩ = some (iv (tyE x).1) := (cell_at qt 0).trans (by rw [he]; rfl)
            clear hk he HF HBK HKI HI HK HM HD HTr HN NJ
            generalize (tyE x).1 = T at *
            by_cases hT : T = 2
            · have HR2 : Hid ((R1, R2, R3) = (2, 0, 0)) := HR.out.trans (if_pos hT)
              have t1 : (T == 2) = true := beq_iff_eq.2 hT
              have t2 : (T != 2) = false := by rw [bne, t1]; rfl
              clear HR hT
              go_wp2_with fail
              go_ret3
              exact ⟨by rw [HR2.out]; rfl, B⟩
            · have HR2 : Hid ((R1, R2, R3) = (0, x.p, 90)) := HR.out.trans (if_neg hT)
              have t1 : (T == 2) = false := beq_eq_false_iff_ne.2 hT
              have t2 : (T != 2) = true := by rw [bne, t1]; rfl
              clear HR hT
              go_wp2_with fail
              go_quiet (fail)
              go_wp2_with fail
              go_ret3
              exact ⟨by rw [HR2.out]; rfl, below_drewN B _⟩
          · have hx := HBK.out x (by rw [he]; simp)
            have hy := HBK.out y (by rw [he]; simp)
            have HR : Hid ((R1, R2, R3) = binT e.p e.b3 e.b4 e.s x.p y.p (tyE x).1 (tyE y).1) := HF.out.trans (fit5 e x y hk he hx hy)
            have k1 : (e.k == 1) = false := by rw [beq_eq_false_iff_ne, hk]; decide
            have k2 : (e.k == 2) = false := by rw [beq_eq_false_iff_ne, hk]; decide
            have k3 : (e.k == 3) = false := by rw [beq_eq_false_iff_ne, hk]; decide
            have k4 : (e.k == 4) = false := by rw [beq_eq_false_iff_ne, hk]; decide
            have k5 : (e.k == 5) = true := by rw [beq_iff_eq]; exact hk
            obtain rfl : n = 2 := by rw [← HN.out, he]; rfl
            obtain ⟨b, off, ci, ea, kd⟩ := HK.out 0 x (by rw [he]; rfl)
            obtain ⟨b', off', cj, ea', kd'⟩ := HK.out 1 y (by rw [he]; rfl)
            rw [ea] at ea'
            injection ea' with ea'
            injection ea' with e1 e2
            subst e1 e2
            subst ea
            have ck := (kd.later B).at1
            have ck' := (kd'.later B).at1
            rw [show tA e.ks 2 = #[iv (tyE x).1, iv (tyE y).1] by rw [he]; rfl] at qt
            have hB := fun W (hW : Below wr.heap.size wr W) => rbin_row e.k e.p e.o e.v e.s am an e.m.length cm e.ns.length cn cap b off e.r e.b1 e.b2 e.b3 e.b4 x.p y.p (tyE x).1 (tyE y).1 W hx hy ((Off.of hW []).cell ck (by simp)) ((Off.of hW []).cell ck' (by simp))
            have hB0 := hB wr (Below.refl _ _)
            rw [← HR.out] at hB0
            clear hB hx hy ck ck' kd kd' HR
            clear hk he HF HBK HKI HI HK HM HD HTr HN NJ
            generalize (tyE x).1 = T at *
            generalize (tyE y).1 = U at *
            go_wp2_with (first | (refine wp_get rfl 29 _ rfl w.heap.size _ 29 rfl qb _ Tryz.underlying29 rfl 13 inf29 rfl ?_) | (refine wp_get rfl 141 _ rfl tb _ 141 rfl qt _ Tryz.underlying141 rfl 2 inf141 rfl ?_))
            refine hB0.mono ?_
            rintro x' w9 ⟨rfl, b9⟩
            go_wp2_with fail
            go_ret3
            exact ⟨rfl, B.trans (b9.mono B.size)⟩
          · have hx := HBK.out x (by rw [he]; simp)
            have HR : Hid ((R1, R2, R3) = if (tyE x).1 = 3 then (0, x.p, 90) else ((tyE x).1, 0, 0)) := HF.out.trans (fit6 e x hk he hx)
            clear hx
            have k1 : (e.k == 1) = false := by rw [beq_eq_false_iff_ne, hk]; decide
            have k2 : (e.k == 2) = false := by rw [beq_eq_false_iff_ne, hk]; decide
            have k3 : (e.k == 3) = false := by rw [beq_eq_false_iff_ne, hk]; decide
            have k4 : (e.k == 4) = false := by rw [beq_eq_false_iff_ne, hk]; decide
            have k5 : (e.k == 5) = false := by rw [beq_eq_false_iff_ne, hk]; decide
            obtain rfl : n = 1 := by rw [← HN.out, he]; rfl
            obtain ⟨b, off, ci, ea, kd⟩ := HK.out 0 x (by rw [he]; rfl)
            subst ea
            have ck : wr.cell? ⟨b, off + 1, none⟩ = some (iv x.p) := by simpa using (kd.later B).at1
            have y0 : wr.cell? ⟨tb, 0, none⟩ = some (iv (tyE x).1) := (cell_at qt 0).trans (by rw [he]; rfl)
            clear hk he HF HBK HKI HI HK HM HD HTr HN NJ
            generalize (tyE x).1 = T at *
            by_cases hT : T = 3
            · have HR2 : Hid ((R1, R2, R3) = (0, x.p, 90)) := HR.out.trans (if_pos hT)
              have t1 : (T == 3) = true := beq_iff_eq.2 hT
              clear HR hT
              go_wp2_with fail
              go_quiet (fail)
              go_wp2_with fail
              go_ret3
              exact ⟨by rw [HR2.out]; rfl, below_drewN B _⟩
            · have HR2 : Hid ((R1, R2, R3) = (T, 0, 0)) := HR.out.trans (if_neg hT)
              have t1 : (T == 3) = false := beq_eq_false_iff_ne.2 hT
              clear HR hT
              go_wp2_with fail
              go_ret3
              exact ⟨by rw [HR2.out]; rfl, B⟩
end Go.Proofs.YteankdaegdhfiaaGreatDoor
/- The reference's Name and Value: as the program's. -/
namespace Go.Proofs.YteankdaegdhfiaaGreatDoor
open Go.RowKit

/-- May the byte at place k stand in a name? -/
def chAt (c : UInt8) (k : Nat) : Bool := letB c || decide (c.toNat = 95) || (decide (0 < k) && digB c)
theorem chAt_pos {c : UInt8} {k : Nat} (h : 0 < k) : chAt c k = nameCh c := by
  unfold chAt nameCh
  simp [h]
  cases letB c <;> cases digB c <;> simp
theorem chAt_zero (c : UInt8) : chAt c 0 = (nameCh c && !digB c) := by
  unfold chAt nameCh letB digB
  rw [Bool.eq_iff_iff]
  simp
  omega
def refCh (s : Str) : Bool := (List.range s.length).all fun k => chAt (s.getD k 0) k
theorem refName_eq (s : Str) : fName s = (refCh s && decide (1 ≤ s.length) && decide (s.length ≤ 20)) := by
  unfold fName refCh
  cases s with
  | nil => rfl
  | cons c r =>
    have e : ((List.range (c :: r).length).all fun k => chAt ((c :: r).getD k 0) k) = (!digB c && (c :: r).all nameCh) := by
      rw [List.length_cons, List.range_succ_eq_map, List.all_cons, List.all_map]
      have e2 : (List.range r.length).all ((fun k => chAt ((c :: r).getD k 0) k) ∘ Nat.succ) = r.all nameCh := by
        have : (fun k => chAt ((c :: r).getD k 0) k) ∘ Nat.succ = fun k => nameCh (r.getD k 0) := by
          funext k
          show chAt ((c :: r).getD (k + 1) 0) (k + 1) = _
          rw [chAt_pos (Nat.succ_pos _)]
          rfl
        rw [this]
        clear this
        induction r with
        | nil => rfl
        | cons d r ih =>
          rw [List.length_cons, List.range_succ_eq_map, List.all_cons, List.all_map, List.all_cons]
          congr 1
      rw [e2]
      show (chAt c 0 && _) = _
      rw [chAt_zero, List.all_cons]
      cases nameCh c <;> cases digB c <;> simp
    rw [e]
    show (_ && _ && !digB c && _) = _
    cases digB c <;> cases (c :: r).all nameCh <;> simp
theorem refCh_no {s : Str} {k : Nat} (hk : k < s.length) (h : chAt s[k] k = false) : refCh s = false := by
  unfold refCh
  rw [List.all_eq_false]
  exact ⟨k, by simpa using hk, by simp [hk, h]⟩
def refUp (s : Str) (k : Nat) : Prop := ∀ i (h : i < s.length), i < k → chAt s[i] i = true
theorem refUp_all {s : Str} {k : Nat} (hk : s.length ≤ k) (h : refUp s k) : refCh s = true := by
  unfold refCh
  rw [List.all_eq_true]
  intro i hi
  have hi' : i < s.length := by simpa using hi
  have := h i hi' (by omega)
  simpa [hi'] using this
theorem refUp_step {s : Str} {k : Nat} (hk : k < s.length) (h : refUp s k) (hc : chAt s[k] k = true) : refUp s (k + 1) := fun i hi hlt => by
  by_cases e : i = k
  · subst e; exact hc
  · exact h i hi (by omega)

set_option maxRecDepth 100000 in
set_option maxHeartbeats 2000000 in
theorem refName_any (l : Str) (w : World) (hl : l.length ≤ 9223372036854775807) :
    Calls Tryz.prog 85 #[.string ⟨l.toArray⟩] w fun e w' => e = .returned (.bool (fName l)) ∧ w = w' := by
  have HE : Hid _ := refName_eq l
  go_enter Tryz.func85, Tryz.ntmps85
  go_wp2_with fail
  go_loop [3] (fun i => ∃ k : Nat, k ≤ l.length ∧ i = .int .i64 k ∧ Hid (refUp l k)) (fun i => l.length - (intOf i).toNat)
  case atStart => exact ⟨0, by omega, rfl, fun i h h2 => by omega⟩
  case round =>
    obtain ⟨k, hk, rfl, ha⟩ := hrel
    by_cases hlt : k < l.length
    · have hbk := ba_lt hlt
      have HC : Hid (l[k] = (⟨l.toArray⟩ : ByteArray)[k]'hbk) := rfl
      have HN : Hid (chAt l[k] k = false → fName l = false) := fun h => by rw [HE.out, refCh_no hlt h]; rfl
      have HY : Hid (chAt l[k] k = true → refUp l (k + 1)) := fun h => refUp_step hlt ha.out h
      rw [HC.out] at HN HY
      clear HC ha HE
      have hcases : ∀ d : Nat, d ≤ 47 ∨ (48 ≤ d ∧ d ≤ 57) ∨ (58 ≤ d ∧ d ≤ 64) ∨ (65 ≤ d ∧ d ≤ 90) ∨ (91 ≤ d ∧ d ≤ 94) ∨ d = 95 ∨ d = 96 ∨ (97 ≤ d ∧ d ≤ 122) ∨ 123 ≤ d := fun d => by omega
      rcases hcases ((⟨l.toArray⟩ : ByteArray)[k]'hbk).toNat with hd | hd | hd | hd | hd | hd | hd | hd | hd
      · have f1 : ¬ (97 : Int) ≤ (((⟨l.toArray⟩ : ByteArray)[k]'hbk).toNat : Int) := by omega
        have f2 : (((⟨l.toArray⟩ : ByteArray)[k]'hbk).toNat : Int) ≤ 122 := by omega
        have f3 : ¬ (65 : Int) ≤ (((⟨l.toArray⟩ : ByteArray)[k]'hbk).toNat : Int) := by omega
        have f4 : (((⟨l.toArray⟩ : ByteArray)[k]'hbk).toNat : Int) ≤ 90 := by omega
        have f6 : ¬ (48 : Int) ≤ (((⟨l.toArray⟩ : ByteArray)[k]'hbk).toNat : Int) := by omega
        have f7 : (((⟨l.toArray⟩ : ByteArray)[k]'hbk).toNat : Int) ≤ 57 := by omega
        have f5 : ((((⟨l.toArray⟩ : ByteArray)[k]'hbk).toNat : Int) == 95) = false := by rw [beq_eq_false_iff_ne]; omega
        by_cases hk0 : 0 < k
        · have hk1 : (0 : Int) < k := by omega
          have HV : Hid (chAt ((⟨l.toArray⟩ : ByteArray)[k]'hbk) k = false) := by show _ = _; rw [← Bool.not_eq_true]; simp only [chAt, letB, digB, Bool.or_eq_true, Bool.and_eq_true, decide_eq_true_eq]; omega
          have HU : Hid (fName l = false) := HN.out HV.out
          clear HV HN HY hd hcases
          go_wp2
          go_ret
          exact ⟨by rw [HU.out]; rfl, rfl⟩
        · have hk1 : ¬ (0 : Int) < k := by omega
          have HV : Hid (chAt ((⟨l.toArray⟩ : ByteArray)[k]'hbk) k = false) := by show _ = _; rw [← Bool.not_eq_true]; simp only [chAt, letB, digB, Bool.or_eq_true, Bool.and_eq_true, decide_eq_true_eq]; omega
          have HU : Hid (fName l = false) := HN.out HV.out
          clear HV HN HY hd hcases
          go_wp2
          go_ret
          exact ⟨by rw [HU.out]; rfl, rfl⟩
      · have f1 : ¬ (97 : Int) ≤ (((⟨l.toArray⟩ : ByteArray)[k]'hbk).toNat : Int) := by omega
        have f2 : (((⟨l.toArray⟩ : ByteArray)[k]'hbk).toNat : Int) ≤ 122 := by omega
        have f3 : ¬ (65 : Int) ≤ (((⟨l.toArray⟩ : ByteArray)[k]'hbk).toNat : Int) := by omega
        have f4 : (((⟨l.toArray⟩ : ByteArray)[k]'hbk).toNat : Int) ≤ 90 := by omega
        have f6 : (48 : Int) ≤ (((⟨l.toArray⟩ : ByteArray)[k]'hbk).toNat : Int) := by omega
        have f7 : (((⟨l.toArray⟩ : ByteArray)[k]'hbk).toNat : Int) ≤ 57 := by omega
        have f5 : ((((⟨l.toArray⟩ : ByteArray)[k]'hbk).toNat : Int) == 95) = false := by rw [beq_eq_false_iff_ne]; omega
        by_cases hk0 : 0 < k
        · have hk1 : (0 : Int) < k := by omega
          have HV : Hid (chAt ((⟨l.toArray⟩ : ByteArray)[k]'hbk) k = true) := by show _ = _; simp only [chAt, letB, digB, Bool.or_eq_true, Bool.and_eq_true, decide_eq_true_eq]; omega
          have HU : Hid (refUp l (k + 1)) := HY.out HV.out
          clear HV HN HY hd hcases
          go_wp2
          go_round
          case rel => exact ⟨k + 1, by omega, by go_num, HU⟩
          case measure => simp [intOf]; omega
        · have hk1 : ¬ (0 : Int) < k := by omega
          have HV : Hid (chAt ((⟨l.toArray⟩ : ByteArray)[k]'hbk) k = false) := by show _ = _; rw [← Bool.not_eq_true]; simp only [chAt, letB, digB, Bool.or_eq_true, Bool.and_eq_true, decide_eq_true_eq]; omega
          have HU : Hid (fName l = false) := HN.out HV.out
          clear HV HN HY hd hcases
          go_wp2
          go_ret
          exact ⟨by rw [HU.out]; rfl, rfl⟩
      · have f1 : ¬ (97 : Int) ≤ (((⟨l.toArray⟩ : ByteArray)[k]'hbk).toNat : Int) := by omega
        have f2 : (((⟨l.toArray⟩ : ByteArray)[k]'hbk).toNat : Int) ≤ 122 := by omega
        have f3 : ¬ (65 : Int) ≤ (((⟨l.toArray⟩ : ByteArray)[k]'hbk).toNat : Int) := by omega
        have f4 : (((⟨l.toArray⟩ : ByteArray)[k]'hbk).toNat : Int) ≤ 90 := by omega
        have f6 : (48 : Int) ≤ (((⟨l.toArray⟩ : ByteArray)[k]'hbk).toNat : Int) := by omega
        have f7 : ¬ (((⟨l.toArray⟩ : ByteArray)[k]'hbk).toNat : Int) ≤ 57 := by omega
        have f5 : ((((⟨l.toArray⟩ : ByteArray)[k]'hbk).toNat : Int) == 95) = false := by rw [beq_eq_false_iff_ne]; omega
        by_cases hk0 : 0 < k
        · have hk1 : (0 : Int) < k := by omega
          have HV : Hid (chAt ((⟨l.toArray⟩ : ByteArray)[k]'hbk) k = false) := by show _ = _; rw [← Bool.not_eq_true]; simp only [chAt, letB, digB, Bool.or_eq_true, Bool.and_eq_true, decide_eq_true_eq]; omega
          have HU : Hid (fName l = false) := HN.out HV.out
          clear HV HN HY hd hcases
          go_wp2
          go_ret
          exact ⟨by rw [HU.out]; rfl, rfl⟩
        · have hk1 : ¬ (0 : Int) < k := by omega
          have HV : Hid (chAt ((⟨l.toArray⟩ : ByteArray)[k]'hbk) k = false) := by show _ = _; rw [← Bool.not_eq_true]; simp only [chAt, letB, digB, Bool.or_eq_true, Bool.and_eq_true, decide_eq_true_eq]; omega
          have HU : Hid (fName l = false) := HN.out HV.out
          clear HV HN HY hd hcases
          go_wp2
          go_ret
          exact ⟨by rw [HU.out]; rfl, rfl⟩
      · have f1 : ¬ (97 : Int) ≤ (((⟨l.toArray⟩ : ByteArray)[k]'hbk).toNat : Int) := by omega
        have f2 : (((⟨l.toArray⟩ : ByteArray)[k]'hbk).toNat : Int) ≤ 122 := by omega
        have f3 : (65 : Int) ≤ (((⟨l.toArray⟩ : ByteArray)[k]'hbk).toNat : Int) := by omega
        have f4 : (((⟨l.toArray⟩ : ByteArray)[k]'hbk).toNat : Int) ≤ 90 := by omega
        have f6 : (48 : Int) ≤ (((⟨l.toArray⟩ : ByteArray)[k]'hbk).toNat : Int) := by omega
        have f7 : ¬ (((⟨l.toArray⟩ : ByteArray)[k]'hbk).toNat : Int) ≤ 57 := by omega
        have f5 : ((((⟨l.toArray⟩ : ByteArray)[k]'hbk).toNat : Int) == 95) = false := by rw [beq_eq_false_iff_ne]; omega
        have HV : Hid (chAt ((⟨l.toArray⟩ : ByteArray)[k]'hbk) k = true) := by show _ = _; simp only [chAt, letB, digB, Bool.or_eq_true, Bool.and_eq_true, decide_eq_true_eq]; omega
        have HU : Hid (refUp l (k + 1)) := HY.out HV.out
        clear HV HN HY hd hcases
        go_wp2
        go_round
        case rel => exact ⟨k + 1, by omega, by go_num, HU⟩
        case measure => simp [intOf]; omega
      · have f1 : ¬ (97 : Int) ≤ (((⟨l.toArray⟩ : ByteArray)[k]'hbk).toNat : Int) := by omega
        have f2 : (((⟨l.toArray⟩ : ByteArray)[k]'hbk).toNat : Int) ≤ 122 := by omega
        have f3 : (65 : Int) ≤ (((⟨l.toArray⟩ : ByteArray)[k]'hbk).toNat : Int) := by omega
        have f4 : ¬ (((⟨l.toArray⟩ : ByteArray)[k]'hbk).toNat : Int) ≤ 90 := by omega
        have f6 : (48 : Int) ≤ (((⟨l.toArray⟩ : ByteArray)[k]'hbk).toNat : Int) := by omega
        have f7 : ¬ (((⟨l.toArray⟩ : ByteArray)[k]'hbk).toNat : Int) ≤ 57 := by omega
        have f5 : ((((⟨l.toArray⟩ : ByteArray)[k]'hbk).toNat : Int) == 95) = false := by rw [beq_eq_false_iff_ne]; omega
        by_cases hk0 : 0 < k
        · have hk1 : (0 : Int) < k := by omega
          have HV : Hid (chAt ((⟨l.toArray⟩ : ByteArray)[k]'hbk) k = false) := by show _ = _; rw [← Bool.not_eq_true]; simp only [chAt, letB, digB, Bool.or_eq_true, Bool.and_eq_true, decide_eq_true_eq]; omega
          have HU : Hid (fName l = false) := HN.out HV.out
          clear HV HN HY hd hcases
          go_wp2
          go_ret
          exact ⟨by rw [HU.out]; rfl, rfl⟩
        · have hk1 : ¬ (0 : Int) < k := by omega
          have HV : Hid (chAt ((⟨l.toArray⟩ : ByteArray)[k]'hbk) k = false) := by show _ = _; rw [← Bool.not_eq_true]; simp only [chAt, letB, digB, Bool.or_eq_true, Bool.and_eq_true, decide_eq_true_eq]; omega
          have HU : Hid (fName l = false) := HN.out HV.out
          clear HV HN HY hd hcases
          go_wp2
          go_ret
          exact ⟨by rw [HU.out]; rfl, rfl⟩
      · have f1 : ¬ (97 : Int) ≤ (((⟨l.toArray⟩ : ByteArray)[k]'hbk).toNat : Int) := by omega
        have f2 : (((⟨l.toArray⟩ : ByteArray)[k]'hbk).toNat : Int) ≤ 122 := by omega
        have f3 : (65 : Int) ≤ (((⟨l.toArray⟩ : ByteArray)[k]'hbk).toNat : Int) := by omega
        have f4 : ¬ (((⟨l.toArray⟩ : ByteArray)[k]'hbk).toNat : Int) ≤ 90 := by omega
        have f6 : (48 : Int) ≤ (((⟨l.toArray⟩ : ByteArray)[k]'hbk).toNat : Int) := by omega
        have f7 : ¬ (((⟨l.toArray⟩ : ByteArray)[k]'hbk).toNat : Int) ≤ 57 := by omega
        have f5 : ((((⟨l.toArray⟩ : ByteArray)[k]'hbk).toNat : Int) == 95) = true := by rw [beq_iff_eq]; omega
        have HV : Hid (chAt ((⟨l.toArray⟩ : ByteArray)[k]'hbk) k = true) := by show _ = _; simp only [chAt, letB, digB, Bool.or_eq_true, Bool.and_eq_true, decide_eq_true_eq]; omega
        have HU : Hid (refUp l (k + 1)) := HY.out HV.out
        clear HV HN HY hd hcases
        go_wp2
        go_round
        case rel => exact ⟨k + 1, by omega, by go_num, HU⟩
        case measure => simp [intOf]; omega
      · have f1 : ¬ (97 : Int) ≤ (((⟨l.toArray⟩ : ByteArray)[k]'hbk).toNat : Int) := by omega
        have f2 : (((⟨l.toArray⟩ : ByteArray)[k]'hbk).toNat : Int) ≤ 122 := by omega
        have f3 : (65 : Int) ≤ (((⟨l.toArray⟩ : ByteArray)[k]'hbk).toNat : Int) := by omega
        have f4 : ¬ (((⟨l.toArray⟩ : ByteArray)[k]'hbk).toNat : Int) ≤ 90 := by omega
        have f6 : (48 : Int) ≤ (((⟨l.toArray⟩ : ByteArray)[k]'hbk).toNat : Int) := by omega
        have f7 : ¬ (((⟨l.toArray⟩ : ByteArray)[k]'hbk).toNat : Int) ≤ 57 := by omega
        have f5 : ((((⟨l.toArray⟩ : ByteArray)[k]'hbk).toNat : Int) == 95) = false := by rw [beq_eq_false_iff_ne]; omega
        by_cases hk0 : 0 < k
        · have hk1 : (0 : Int) < k := by omega
          have HV : Hid (chAt ((⟨l.toArray⟩ : ByteArray)[k]'hbk) k = false) := by show _ = _; rw [← Bool.not_eq_true]; simp only [chAt, letB, digB, Bool.or_eq_true, Bool.and_eq_true, decide_eq_true_eq]; omega
          have HU : Hid (fName l = false) := HN.out HV.out
          clear HV HN HY hd hcases
          go_wp2
          go_ret
          exact ⟨by rw [HU.out]; rfl, rfl⟩
        · have hk1 : ¬ (0 : Int) < k := by omega
          have HV : Hid (chAt ((⟨l.toArray⟩ : ByteArray)[k]'hbk) k = false) := by show _ = _; rw [← Bool.not_eq_true]; simp only [chAt, letB, digB, Bool.or_eq_true, Bool.and_eq_true, decide_eq_true_eq]; omega
          have HU : Hid (fName l = false) := HN.out HV.out
          clear HV HN HY hd hcases
          go_wp2
          go_ret
          exact ⟨by rw [HU.out]; rfl, rfl⟩
      · have f1 : (97 : Int) ≤ (((⟨l.toArray⟩ : ByteArray)[k]'hbk).toNat : Int) := by omega
        have f2 : (((⟨l.toArray⟩ : ByteArray)[k]'hbk).toNat : Int) ≤ 122 := by omega
        have f3 : (65 : Int) ≤ (((⟨l.toArray⟩ : ByteArray)[k]'hbk).toNat : Int) := by omega
        have f4 : ¬ (((⟨l.toArray⟩ : ByteArray)[k]'hbk).toNat : Int) ≤ 90 := by omega
        have f6 : (48 : Int) ≤ (((⟨l.toArray⟩ : ByteArray)[k]'hbk).toNat : Int) := by omega
        have f7 : ¬ (((⟨l.toArray⟩ : ByteArray)[k]'hbk).toNat : Int) ≤ 57 := by omega
        have f5 : ((((⟨l.toArray⟩ : ByteArray)[k]'hbk).toNat : Int) == 95) = false := by rw [beq_eq_false_iff_ne]; omega
        have HV : Hid (chAt ((⟨l.toArray⟩ : ByteArray)[k]'hbk) k = true) := by show _ = _; simp only [chAt, letB, digB, Bool.or_eq_true, Bool.and_eq_true, decide_eq_true_eq]; omega
        have HU : Hid (refUp l (k + 1)) := HY.out HV.out
        clear HV HN HY hd hcases
        go_wp2
        go_round
        case rel => exact ⟨k + 1, by omega, by go_num, HU⟩
        case measure => simp [intOf]; omega
      · have f1 : (97 : Int) ≤ (((⟨l.toArray⟩ : ByteArray)[k]'hbk).toNat : Int) := by omega
        have f2 : ¬ (((⟨l.toArray⟩ : ByteArray)[k]'hbk).toNat : Int) ≤ 122 := by omega
        have f3 : (65 : Int) ≤ (((⟨l.toArray⟩ : ByteArray)[k]'hbk).toNat : Int) := by omega
        have f4 : ¬ (((⟨l.toArray⟩ : ByteArray)[k]'hbk).toNat : Int) ≤ 90 := by omega
        have f6 : (48 : Int) ≤ (((⟨l.toArray⟩ : ByteArray)[k]'hbk).toNat : Int) := by omega
        have f7 : ¬ (((⟨l.toArray⟩ : ByteArray)[k]'hbk).toNat : Int) ≤ 57 := by omega
        have f5 : ((((⟨l.toArray⟩ : ByteArray)[k]'hbk).toNat : Int) == 95) = false := by rw [beq_eq_false_iff_ne]; omega
        by_cases hk0 : 0 < k
        · have hk1 : (0 : Int) < k := by omega
          have HV : Hid (chAt ((⟨l.toArray⟩ : ByteArray)[k]'hbk) k = false) := by show _ = _; rw [← Bool.not_eq_true]; simp only [chAt, letB, digB, Bool.or_eq_true, Bool.and_eq_true, decide_eq_true_eq]; omega
          have HU : Hid (fName l = false) := HN.out HV.out
          clear HV HN HY hd hcases
          go_wp2
          go_ret
          exact ⟨by rw [HU.out]; rfl, rfl⟩
        · have hk1 : ¬ (0 : Int) < k := by omega
          have HV : Hid (chAt ((⟨l.toArray⟩ : ByteArray)[k]'hbk) k = false) := by show _ = _; rw [← Bool.not_eq_true]; simp only [chAt, letB, digB, Bool.or_eq_true, Bool.and_eq_true, decide_eq_true_eq]; omega
          have HU : Hid (fName l = false) := HN.out HV.out
          clear HV HN HY hd hcases
          go_wp2
          go_ret
          exact ⟨by rw [HU.out]; rfl, rfl⟩
    · have HF : Hid (fName l = (decide (1 ≤ l.length) && decide (l.length ≤ 20))) := by show _ = _; rw [HE.out, refUp_all (by omega) ha.out]; simp
      by_cases g1 : 1 ≤ l.length
      · by_cases g2 : l.length ≤ 20
        · have i1 : (1 : Int) ≤ l.length := by omega
          have i2 : (l.length : Int) ≤ 20 := by omega
          have HG : Hid (fName l = true) := by show _ = _; rw [HF.out]; simp [g1, g2]
          clear HF g1 g2
          go_wp2_with fail
          go_ret
          exact ⟨by rw [HG.out]; rfl, rfl⟩
        · have i1 : (1 : Int) ≤ l.length := by omega
          have i2 : ¬ (l.length : Int) ≤ 20 := by omega
          have HG : Hid (fName l = false) := by show _ = _; rw [HF.out]; simp [g2]
          clear HF g1 g2
          go_wp2_with fail
          go_ret
          exact ⟨by rw [HG.out]; rfl, rfl⟩
      · have i1 : ¬ (1 : Int) ≤ l.length := by omega
        have HG : Hid (fName l = false) := by show _ = _; rw [HF.out]; simp [g1]
        clear HF g1
        go_wp2_with fail
        go_ret
        exact ⟨by rw [HG.out]; rfl, rfl⟩
end Go.Proofs.YteankdaegdhfiaaGreatDoor
/- The reference: whether a number is one. -/
namespace Go.Proofs.YteankdaegdhfiaaGreatDoor.Fx
open Go.RowKit

theorem rIs_eqs9 {o : Bool} {n : Int} (h0 : -9223372036854775808 ≤ n) : fIs o n = if o = true then decide (n = 0) else decide (¬ n = -9223372036854775808) := by
  unfold fIs
  cases o with
  | true => rfl
  | false =>
    show decide (-9223372036854775807 ≤ n) = decide (¬ n = -9223372036854775808)
    by_cases h : n = -9223372036854775808
    · rw [decide_eq_false (by omega), decide_eq_false (by omega)]
    · rw [decide_eq_true (by omega), decide_eq_true h]

theorem ris_all9 (o : Bool) (n : Int) (w : World) (h0 : -9223372036854775808 ≤ n) : Calls Tryz.prog 136 #[.agg #[.bool o, .int .i64 n]] w fun e w' => e = .returned (.bool (fIs o n)) ∧ Below w.heap.size w w' := by
  have hb0 : Below w.heap.size w (w.alloc (.cells #[.bool o, .int .i64 n] 24)) := bal (Below.refl _ _) _
  rw [rIs_eqs9 h0]
  cases o with
  | true =>
    by_cases h : n = 0
    · subst h
      go_enter Tryz.func136, Tryz.ntmps136
      go_wp2
      go_ret
      exact ⟨rfl, hb0⟩
    · have H : Hid (¬ n = 0) := h
      go_enter Tryz.func136, Tryz.ntmps136
      go_wp2
      go_ret
      exact ⟨by simp [H.out], hb0⟩
  | false =>
    by_cases h : n = -9223372036854775808
    · subst h
      go_enter Tryz.func136, Tryz.ntmps136
      go_wp2
      go_ret
      exact ⟨rfl, hb0⟩
    · go_enter Tryz.func136, Tryz.ntmps136
      go_wp2
      go_ret
      exact ⟨by simp, hb0⟩
end Go.Proofs.YteankdaegdhfiaaGreatDoor.Fx
/- The reference: whether a matcher is one; a number of an expression; a list of names. -/
namespace Go.Proofs.YteankdaegdhfiaaGreatDoor
open Go.RowKit

theorem fMat_r (m : Mt) : fMat m = (fName m.name && decide (1 ≤ m.kind) && decide (m.kind ≤ 4) && rVal m.text) := by
  unfold fMat fKind rVal
  cases fName m.name <;> cases m.text.contains 10 <;> simp [Bool.and_assoc]

set_option maxHeartbeats 1000000 in
theorem refIsM_any (m : Mt) (w : World) (hn : Big m.name) (ht : Big m.text) :
    Calls Tryz.prog 126 #[.agg #[tx m.name, .int .i64 m.kind, tx m.text]] w fun e w' => e = .returned (.bool (fMat m)) ∧ Below w.heap.size w w' := by
  have hnm := fun W => refName_any m.name W hn
  have hvl := fun W => refValue_any m.text W ht
  have hb0 : ∀ o, Below w.heap.size w (w.alloc o) := bal (Below.refl _ _)
  rw [fMat_r]
  obtain ⟨n, k, t⟩ := m
  dsimp only at *
  clear hn ht
  generalize fName n = a at *
  generalize rVal t = c at *
  cases a with
  | false =>
    go_enter Tryz.func126, Tryz.ntmps126
    go_wp2_with (go_at_call 85; refine (hnm _).mono ?_; rintro e w' ⟨rfl, rfl⟩)
    go_ret
    exact ⟨by simp, hb0 _⟩
  | true =>
    by_cases h1 : 1 ≤ k
    · by_cases h4 : k ≤ 4
      · go_enter Tryz.func126, Tryz.ntmps126
        go_wp2_with (first | (go_at_call 85; refine (hnm _).mono ?_; rintro e w' ⟨rfl, rfl⟩) | (go_at_call 182; refine (hvl _).mono ?_; rintro e w' ⟨rfl, rfl⟩))
        go_ret
        exact ⟨by simp [h1, h4], hb0 _⟩
      · go_enter Tryz.func126, Tryz.ntmps126
        go_wp2_with (first | (go_at_call 85; refine (hnm _).mono ?_; rintro e w' ⟨rfl, rfl⟩) | (go_at_call 182; refine (hvl _).mono ?_; rintro e w' ⟨rfl, rfl⟩))
        go_ret
        exact ⟨by simp; intro h; omega, hb0 _⟩
    · go_enter Tryz.func126, Tryz.ntmps126
      go_wp2_with (first | (go_at_call 85; refine (hnm _).mono ?_; rintro e w' ⟨rfl, rfl⟩) | (go_at_call 182; refine (hvl _).mono ?_; rintro e w' ⟨rfl, rfl⟩))
      go_ret
      exact ⟨by simp; intro h; omega, hb0 _⟩
end Go.Proofs.YteankdaegdhfiaaGreatDoor
/- The reference's reader in its block; the token that stands there. -/
namespace Go.Proofs.YteankdaegdhfiaaGreatDoor
open Go.RowKit

abbrev prC (R : Rc) (i dp fp fy : Int) : Array Value := #[.slice R.ta R.n R.c, .int .i64 i, .int .i64 dp, .int .i64 fy, .int .i64 fp]
structure Pd (R : Rc) (w : World) (i : Nat) (dp fp fy : Int) : Prop where
  h : w.heap[R.b]? = some (.cells (prC R i dp fp fy) 81)
  ts : Ts w R.ta R.n R.T
  lt : ∀ a, R.ta = some a → 0 < R.n → a.block < R.b
  ib : i ≤ R.n + 100
  nb : R.n ≤ 1000000
  hq : R.q = endP R.T
theorem Pd.c0 {R : Rc} {w : World} {i : Nat} {dp fp fy : Int} (h : Pd R w i dp fp fy) : w.cell? ⟨R.b, 0, none⟩ = some (.slice R.ta R.n R.c) := (cell_at h.h 0).trans rfl
theorem Pd.c1 {R : Rc} {w : World} {i : Nat} {dp fp fy : Int} (h : Pd R w i dp fp fy) : w.cell? ⟨R.b, 1, none⟩ = some (.int .i64 i) := (cell_at h.h 1).trans rfl
theorem Pd.c2 {R : Rc} {w : World} {i : Nat} {dp fp fy : Int} (h : Pd R w i dp fp fy) : w.cell? ⟨R.b, 2, none⟩ = some (.int .i64 dp) := (cell_at h.h 2).trans rfl
theorem Pd.c3 {R : Rc} {w : World} {i : Nat} {dp fp fy : Int} (h : Pd R w i dp fp fy) : w.cell? ⟨R.b, 3, none⟩ = some (.int .i64 fy) := (cell_at h.h 3).trans rfl
theorem Pd.c4 {R : Rc} {w : World} {i : Nat} {dp fp fy : Int} (h : Pd R w i dp fp fy) : w.cell? ⟨R.b, 4, none⟩ = some (.int .i64 fp) := (cell_at h.h 4).trans rfl
theorem Pd.fz {R : Rc} {w : World} {i : Nat} {dp fp fy : Int} (h : Pd R w i dp fp fy) (j : Nat) : w.frozen? ⟨R.b, j, none⟩ = false := frozen_at h.h j
theorem Pd.bl {R : Rc} {w : World} {i : Nat} {dp fp fy : Int} (h : Pd R w i dp fp fy) : R.b < w.heap.size := lt_of_heap h.h
theorem Pd.off {R : Rc} {X : List Nat} {w w' : World} {i : Nat} {dp fp fy : Int} (h : Pd R w i dp fp fy) (ho : Off X w w') (hX : ∀ x ∈ X, R.b < x) : Pd R w' i dp fp fy :=
  ⟨ho.heap h.h (fun hm => by have := hX _ hm; omega), h.ts.off ho (fun a e hp hm => by have := hX _ hm; have := h.lt a e hp; omega), h.lt, h.ib, h.nb, h.hq⟩
theorem Pd.later {R : Rc} {w w' : World} {i : Nat} {dp fp fy : Int} (h : Pd R w i dp fp fy) (hb : Below w.heap.size w w') : Pd R w' i dp fp fy := h.off (Off.of hb []) (fun _ hx => by cases hx)
theorem Pd.put {R : Rc} {w w' : World} {i j : Nat} {dp fp fy dp' fp' fy' : Int} (h : Pd R w i dp fp fy) (ho : Off [R.b] w w') (hj : j ≤ R.n + 100) (hh : w'.heap[R.b]? = some (.cells (prC R j dp' fp' fy') 81)) : Pd R w' j dp' fp' fy' :=
  ⟨hh, h.ts.off ho (fun a e hp hm => by have := h.lt a e hp; simp at hm; omega), h.lt, hj, h.nb, h.hq⟩
theorem i64w (n : Int) (h0 : 0 ≤ n) (h1 : n < 9223372036854775808) : IntKind.i64.wrap n = n := by
  have hm : n % 18446744073709551616 = n := by omega
  unfold IntKind.wrap
  simp [IntKind.bits, IntKind.signed, hm]
  omega
theorem exec_tok {a : Act} {o : Oper} (x : Operand) (ho : o.op = .load 39 x) (b off : Nat) (cs : Array Value) (hx : a.eval x = .pointer (some ⟨b, off, none⟩)) (W : World) (hr : W.rangeAt b off cs.toList) (hn : cs.size = 6) : (execOp a.eval o).run Tryz.prog W = .ok (.value (.agg cs)) W := by
  unfold execOp
  simp only [ho, hx, Instr.loadAt, Instr.sureAddr, Sem.run_bind, Sem.run_pure, Result.andThen_ok, run_loadVar_mid W b off 39 cs.toList _ hr Tryz.underlying39 rfl (by rw [inf39]; simp [hn])]
theorem endP_at9 {T : List Tk} (h : 0 < T.length) : endP T = (T.getD (T.length - 1) tk0).p := by
  unfold endP
  rw [List.getLast?_eq_getElem?, List.getD, List.getElem?_eq_getElem (by omega)]
  rfl
theorem endP_nil {T : List Tk} (h : T.length = 0) : endP T = 0 := by
  obtain rfl := List.eq_nil_of_length_eq_zero h
  rfl
set_option maxHeartbeats 4000000 in
set_option maxRecDepth 20000 in
theorem peek_any (R : Rc) {w : World} {i : Nat} {dp fp fy : Int} (k j : Nat) (hj : (i : Int) + (k : Int) = (j : Int)) (hk : k ≤ 10) (h : Pd R w i dp fp fy) :
    Calls Tryz.prog 43 #[R.ptr, .int .i64 k] w fun e w' => e = .returned (tv (hd R.q (R.T.drop j))) ∧ Below w.heap.size w w' := by
  have h1 := h.later (bal (Below.refl _ _) (.cells (tcs tk0) 39))
  have r0 := heap_new w (.cells (tcs tk0) 39)
  have B0 := bal (Below.refl w.heap.size w) (.cells (tcs tk0) 39)
  have hbl := h.bl
  have z0 := size_le w (.cells (tcs tk0) 39)
  have hl := h.ts.1
  have hnb := h.nb
  have hib := h.ib
  have hq := h.hq
  simp only [tk0] at h1 r0 B0 z0
  by_cases hlt : j < R.n
  · obtain ⟨tb, off, hta, -⟩ := h.ts.2 (by omega)
    rw [hd_at (by rw [hl]; exact hlt)]
    have hlt' : (j : Int) < R.n := by omega
    have ht : ∀ W, Pd R W i dp fp fy → W.rangeAt tb (off + j * 6) (tcs (R.T.getD j tk0)).toList := fun W hW => by
      have hts := hW.ts
      rw [hta] at hts
      obtain ⟨d0, d1, d2, d3, d4, d5⟩ := hts.at j hlt
      intro m v hv
      match m, hv with
      | 0, hv => simp at hv; subst hv; exact d0
      | 1, hv => simp at hv; subst hv; exact d1
      | 2, hv => simp at hv; subst hv; exact d2
      | 3, hv => simp at hv; subst hv; exact d3
      | 4, hv => simp at hv; subst hv; exact d4
      | 5, hv => simp at hv; subst hv; exact d5
      | m + 6, hv => simp at hv
    generalize R.T.getD j tk0 = x at *
    clear hl h hq
    go_enter Tryz.func43, Tryz.ntmps43
    go_upto_region 1 with fail
    generalize w.alloc (.cells (tcs ⟨0, 0, [], false, 0, 0⟩) 39) = w1 at *
    have c0 := h1.c0
    have c1 := h1.c1
    go_quiet (fail)
    have C : Below w1.heap.size w1 (w1.drewN nq) := below_drewN (Below.refl _ _) nq
    generalize w1.drewN nq = w2 at *
    go_upto_region 2 with fail
    refine wp_region_noPanic ?_
    have SO : ∀ W, Off [w.heap.size] w1 W → Pd R W i dp fp fy := fun W hW => h1.off hW (by simp; omega)
    refine wp_region_held_drew (S := fun W => Off [w.heap.size] w1 W) (by kernel_rfl) ?_ (fun _ => ?_)
    · exact Off.of (C.trans ((drew_below w2).mono C.size)) _
    have C0 : Off [w.heap.size] w1 w2.drew := Off.of (C.trans ((drew_below w2).mono C.size)) _
    have r3 := below_heap (C.trans ((drew_below w2).mono C.size)) r0
    generalize w2.drew = w3 at *
    refine take_at 0 (some 18) (R.ptr) rfl rfl (by kernel_rfl) (by kernel_rfl) (by kernel_rfl) (fun _ _ _ h => h) (by rfl) (fun W hSw => by go_simp) C0 ?_
    simp only [Act.put, List.setIfInBounds_toArray, List.set_cons_zero, List.set_cons_succ]
    refine take_at 1 (some 19) (R.ptr) rfl rfl (by kernel_rfl) (by kernel_rfl) (by kernel_rfl) (fun _ _ _ h => h) (by rfl) (fun W hSw => by go_simp) C0 ?_
    simp only [Act.put, List.setIfInBounds_toArray, List.set_cons_zero, List.set_cons_succ]
    refine take_at 2 (some 20) (.pointer (some ⟨R.b, 0, none⟩)) rfl rfl (by kernel_rfl) (by kernel_rfl) (by kernel_rfl) (fun _ _ _ h => h) (by rfl) (fun W hSw => by go_simp) C0 ?_
    simp only [Act.put, List.setIfInBounds_toArray, List.set_cons_zero, List.set_cons_succ]
    refine take_at 3 (some 21) (.slice (some ⟨tb, off, none⟩) R.n R.c) rfl rfl (by kernel_rfl) (by kernel_rfl) (by kernel_rfl) (fun _ _ _ h => h) (by rfl) (fun W hSw => by (have hk := (SO _ hSw).c0; rw [hta] at hk; go_simp)) C0 ?_
    simp only [Act.put, List.setIfInBounds_toArray, List.set_cons_zero, List.set_cons_succ]
    refine take_at 4 (some 22) (R.ptr) rfl rfl (by kernel_rfl) (by kernel_rfl) (by kernel_rfl) (fun _ _ _ h => h) (by rfl) (fun W hSw => by go_simp) C0 ?_
    simp only [Act.put, List.setIfInBounds_toArray, List.set_cons_zero, List.set_cons_succ]
    refine take_at 5 (some 23) (R.ptr) rfl rfl (by kernel_rfl) (by kernel_rfl) (by kernel_rfl) (fun _ _ _ h => h) (by rfl) (fun W hSw => by go_simp) C0 ?_
    simp only [Act.put, List.setIfInBounds_toArray, List.set_cons_zero, List.set_cons_succ]
    refine take_at 6 (some 24) (.pointer (some ⟨R.b, 1, none⟩)) rfl rfl (by kernel_rfl) (by kernel_rfl) (by kernel_rfl) (fun _ _ _ h => h) (by rfl) (fun W hSw => by go_simp) C0 ?_
    simp only [Act.put, List.setIfInBounds_toArray, List.set_cons_zero, List.set_cons_succ]
    refine take_at 7 (some 25) (.int .i64 i) rfl rfl (by kernel_rfl) (by kernel_rfl) (by kernel_rfl) (fun _ _ _ h => h) (by rfl) (fun W hSw => by (have hk := (SO _ hSw).c1; go_simp)) C0 ?_
    simp only [Act.put, List.setIfInBounds_toArray, List.set_cons_zero, List.set_cons_succ]
    refine take_at 8 (some 26) (.int .i64 k) rfl rfl (by kernel_rfl) (by kernel_rfl) (by kernel_rfl) (fun _ _ _ h => h) (by rfl) (fun W hSw => by go_simp) C0 ?_
    simp only [Act.put, List.setIfInBounds_toArray, List.set_cons_zero, List.set_cons_succ]
    refine take_at 9 (some 27) (.int .i64 j) rfl rfl (by kernel_rfl) (by kernel_rfl) (by kernel_rfl) (fun _ _ _ h => h) (by rfl) (fun W hSw => by go_simp; exact i64w _ (by omega) (by omega)) C0 ?_
    simp only [Act.put, List.setIfInBounds_toArray, List.set_cons_zero, List.set_cons_succ]
    refine take_at 10 (some 28) (.pointer (some ⟨tb, off + j * 6, none⟩)) rfl rfl (by kernel_rfl) (by kernel_rfl) (by kernel_rfl) (fun _ _ _ h => h) (by rfl) (fun W hSw => by go_simp) C0 ?_
    simp only [Act.put, List.setIfInBounds_toArray, List.set_cons_zero, List.set_cons_succ]
    refine take_at 11 (some 29) (.agg (tcs x)) rfl rfl (by kernel_rfl) (by kernel_rfl) (by kernel_rfl) (fun _ _ _ h => h) (by rfl) (fun W hSw => by exact exec_tok _ rfl tb (off + j * 6) (tcs x) rfl W (ht _ (SO _ hSw)) rfl) C0 ?_
    simp only [Act.put, List.setIfInBounds_toArray, List.set_cons_zero, List.set_cons_succ]
    refine wpAnyH_ready (rs := [12]) (by kernel_rfl) (by simp) ?_
    refine AllReadyH.cons rfl (fun K hK => ?_) AllReadyH.nil
    refine step_put 39 _ _ none rfl rfl (by rfl) w.heap.size (tcs x) rfl rfl _ 39 r3 6 inf39 rfl ⟨rfl, rfl⟩ ?_
    intro w4 q4 o4 z4
    clear z4
    refine hK.out _ _ ?_ (fun _ => ?_)
    · exact C0.then o4
    clear hK K
    refine wpAnyH_done (by kernel_rfl) ?_ _
    refine NoPanic.normal ?_
    have B4 := ((Off.of B0 [w.heap.size]).trans (C0.then o4) (by simp)).below (by simp)
    go_wp2_with fail
    exact bodyPost_ret (res_cell Tryz.results43 _ _ w.heap.size 39 (tcs x) _ rfl q4 Tryz.underlying39 rfl 6 inf39 rfl) rfl ⟨rfl, B4⟩
  · have hlt' : ¬ (j : Int) < R.n := by omega
    rw [hd_end (by rw [hl]; omega)]
    by_cases hn : 0 < R.n
    · have hn' : (0 : Int) < R.n := by omega
      obtain ⟨tb, off, hta, -⟩ := h.ts.2 hn
      have hp : ∀ W, Pd R W i dp fp fy → W.cell? ⟨tb, off + (R.n - 1) * 6 + 1, none⟩ = some (.int .i64 R.q) := fun W hW => by
        have hts := hW.ts
        rw [hta] at hts
        rw [hq, endP_at9 (by rw [hl]; exact hn), hl]
        exact (hts.at (R.n - 1) (by omega)).2.1
      have hm1 : ((R.n : Int) - 1) = ((R.n - 1 : Nat) : Int) := by omega
      obtain ⟨m, HM⟩ : ∃ m, Hid (R.n - 1 = m) := ⟨_, rfl⟩
      have hmn : (m : Int) < R.n := by have := HM.out; omega
      rw [HM.out] at hp hm1
      clear hl h hq
      go_enter Tryz.func43, Tryz.ntmps43
      go_upto_region 1 with fail
      generalize w.alloc (.cells (tcs ⟨0, 0, [], false, 0, 0⟩) 39) = w1 at *
      have c0 := h1.c0
      have c1 := h1.c1
      go_quiet (fail)
      have C : Below w1.heap.size w1 (w1.drewN nq) := below_drewN (Below.refl _ _) nq
      generalize w1.drewN nq = w2 at *
      have h2 := h1.later C
      have r2 := below_heap C r0
      have d0 := h2.c0
      have d1 := hp _ h2
      rw [hta] at d0
      clear c0 c1
      go_upto_region 5 with fail
      go_quiet (fail)
      have C3 : Below w2.heap.size w2 (w2.drewN nq) := below_drewN (Below.refl _ _) nq
      generalize w2.drewN nq = w3 at *
      have r3 := below_heap C3 r2
      go_wp2_with (refine wp_put rfl 39 _ _ rfl w.heap.size (tcs ⟨0, R.q, [], false, 0, 0⟩) rfl rfl _ 39 r3 6 inf39 rfl ⟨rfl, rfl⟩ ?_; intro w4 q4 o4 z4)
      have B2 := B0.trans (C.mono B0.size)
      have B3 := B2.trans (C3.mono B2.size)
      exact bodyPost_ret (res_cell Tryz.results43 _ _ w.heap.size 39 (tcs ⟨0, R.q, [], false, 0, 0⟩) _ rfl q4 Tryz.underlying39 rfl 6 inf39 rfl) rfl ⟨rfl, ((Off.of B3 [w.heap.size]).then o4).below (by simp)⟩
    · have hn' : ¬ (0 : Int) < R.n := by omega
      have hq0 : R.q = 0 := by rw [hq, endP_nil (by rw [hl]; omega)]
      rw [hq0]
      clear hl h hq hq0
      go_enter Tryz.func43, Tryz.ntmps43
      go_upto_region 1 with fail
      generalize w.alloc (.cells (tcs ⟨0, 0, [], false, 0, 0⟩) 39) = w1 at *
      have c0 := h1.c0
      have c1 := h1.c1
      go_quiet (fail)
      have C : Below w1.heap.size w1 (w1.drewN nq) := below_drewN (Below.refl _ _) nq
      generalize w1.drewN nq = w2 at *
      have h2 := h1.later C
      have r2 := below_heap C r0
      have d0 := h2.c0
      clear c0 c1
      go_wp2_with (refine wp_put rfl 39 _ _ rfl w.heap.size (tcs ⟨0, 0, [], false, 0, 0⟩) rfl rfl _ 39 r2 6 inf39 rfl ⟨rfl, rfl⟩ ?_; intro w4 q4 o4 z4)
      have B2 := B0.trans (C.mono B0.size)
      exact bodyPost_ret (res_cell Tryz.results43 _ _ w.heap.size 39 (tcs ⟨0, 0, [], false, 0, 0⟩) _ rfl q4 Tryz.underlying39 rfl 6 inf39 rfl) rfl ⟨rfl, ((Off.of B2 [w.heap.size]).then o4).below (by simp)⟩
theorem peek0_any (R : Rc) {w : World} {i : Nat} {dp fp fy : Int} (h : Pd R w i dp fp fy) :
    Calls Tryz.prog 43 #[R.ptr, .int .i64 0] w fun e w' => e = .returned (tv (hd R.q (R.T.drop i))) ∧ Below w.heap.size w w' :=
  peek_any R 0 i (by simp) (by omega) h
theorem peek1_any (R : Rc) {w : World} {i : Nat} {dp fp fy : Int} (h : Pd R w i dp fp fy) :
    Calls Tryz.prog 43 #[R.ptr, .int .i64 1] w fun e w' => e = .returned (tv (hd R.q (R.T.drop (i + 1)))) ∧ Below w.heap.size w w' :=
  peek_any R 1 (i + 1) (by simp) (by omega) h
end Go.Proofs.YteankdaegdhfiaaGreatDoor
/- The reference's small words: a sign, a failure, a sign taken, one level down; words. -/
namespace Go.Proofs.YteankdaegdhfiaaGreatDoor
open Go.RowKit

set_option maxHeartbeats 2000000 in
theorem rsign_any (R : Rc) {w : World} {i : Nat} {dp fp fy : Int} (s : Str) (h : Pd R w i dp fp fy) : Calls Tryz.prog 110 #[R.ptr, tx s] w fun e w' => e = .returned (.bool (sg (hd R.q (R.T.drop i)) s)) ∧ Below w.heap.size w w' := by
  have ha := fun W (hW : Pd R W i dp fp fy) => peek0_any R hW
  have f0 := fld0 (hd R.q (R.T.drop i))
  have f2 := fld2 (hd R.q (R.T.drop i))
  unfold sg
  generalize hd R.q (R.T.drop i) = x at *
  cases hk : x.k == 5 with
  | false =>
    go_enter Tryz.func110, Tryz.ntmps110
    go_wp2_with fail
    refine (ha _ h).mono ?_
    rintro e w1 ⟨rfl, b1⟩
    go_wp2_with fail
    go_ret
    exact ⟨rfl, b1⟩
  | true =>
    go_enter Tryz.func110, Tryz.ntmps110
    go_wp2_with fail
    refine (ha _ h).mono ?_
    rintro e w1 ⟨rfl, b1⟩
    have h1 := h.later b1
    go_wp2_with fail
    refine (ha _ h1).mono ?_
    rintro e w2 ⟨rfl, b2⟩
    go_wp2_with fail
    go_ret
    exact ⟨by simp, b1.trans (b2.mono b1.size)⟩
set_option maxHeartbeats 2000000 in
theorem fail_new (R : Rc) {w : World} {i : Nat} {dp fp : Int} (why : Int) (h : Pd R w i dp fp 0) : Calls Tryz.prog 44 #[R.ptr, .int .i64 why] w fun e w' => e = .returned (.tuple #[]) ∧ Pd R w' i dp (hd R.q (R.T.drop i)).p why ∧ Off [R.b] w w' := by
  have ha := peek0_any R h
  have f1 := fld1 (hd R.q (R.T.drop i))
  have c3 := h.c3
  generalize hd R.q (R.T.drop i) = x at *
  go_enter Tryz.func44, Tryz.ntmps44
  go_wp2_with fail
  refine ha.mono ?_
  rintro e w1 ⟨rfl, b1⟩
  have h1 := h.later b1
  have d3 := h1.c3
  have d4 := h1.c4
  have e3 := h1.fz 3
  have e4 := h1.fz 4
  have O1 := Off.of b1 [R.b]
  have s1 := set_heap h1.h 3 (.int .i64 why)
  have o1 := set_off w1 R.b 3 (.int .i64 why)
  have s2 := set_heap s1 4 (.int .i64 x.p)
  have o2 := set_off (w1.setCell ⟨R.b, 3, none⟩ (.int .i64 why)) R.b 4 (.int .i64 x.p)
  have o3 := o1.then o2
  have h3 := h1.put (j := i) (dp' := dp) (fp' := x.p) (fy' := why) o3 h1.ib s2
  have O3 := O1.then o3
  clear s1 o1 s2 o2 o3 ha O1
  go_wp2_with fail
  go_end0
  exact ⟨rfl, h3, O3⟩
theorem fail_old (R : Rc) {w : World} {i : Nat} {dp fp fy : Int} (why : Int) (hy : fy ≠ 0) (h : Pd R w i dp fp fy) : Calls Tryz.prog 44 #[R.ptr, .int .i64 why] w fun e w' => e = .returned (.tuple #[]) ∧ w = w' := by
  have c3 := h.c3
  have hy' : (fy == 0) = false := by rw [beq_eq_false_iff_ne]; exact hy
  clear hy
  go_enter Tryz.func44, Tryz.ntmps44
  go_wp2_with fail
  go_end0
  exact ⟨rfl, rfl⟩
set_option maxHeartbeats 2000000 in
theorem rtake_old (R : Rc) {w : World} {i : Nat} {dp fp fy : Int} (s : Str) (hy : fy ≠ 0) (h : Pd R w i dp fp fy) (hi : i + 1 ≤ R.n + 100) : Calls Tryz.prog 114 #[R.ptr, tx s] w fun e w' => e = .returned (.tuple #[]) ∧ Pd R w' (i + 1) dp fp fy ∧ Off [R.b] w w' := by
  have c3 := h.c3
  have c1 := h.c1
  have f1 := h.fz 1
  have hnb := h.nb
  have hy' : (fy == 0) = false := by rw [beq_eq_false_iff_ne]; exact hy
  have hle : (i : Int) + 1 ≤ 1000101 := by omega
  have s1 := set_heap h.h 1 (.int .i64 ((i : Int) + 1))
  have o1 := set_off w R.b 1 (.int .i64 ((i : Int) + 1))
  have h1 := h.put (j := i + 1) (dp' := dp) (fp' := fp) (fy' := fy) o1 hi s1
  clear hy s1
  go_enter Tryz.func114, Tryz.ntmps114
  go_wp2_with fail
  go_end0
  exact ⟨rfl, h1, o1⟩
set_option maxHeartbeats 2000000 in
theorem rtake_yes (R : Rc) {w : World} {i : Nat} {dp fp : Int} (s : Str) (hs : sg (hd R.q (R.T.drop i)) s = true) (h : Pd R w i dp fp 0) (hi : i + 1 ≤ R.n + 100) : Calls Tryz.prog 114 #[R.ptr, tx s] w fun e w' => e = .returned (.tuple #[]) ∧ Pd R w' (i + 1) dp fp 0 ∧ Off [R.b] w w' := by
  have ha := rsign_any R s h
  rw [hs] at ha
  have c3 := h.c3
  have hnb := h.nb
  have hle : (i : Int) + 1 ≤ 1000101 := by omega
  clear hs
  go_enter Tryz.func114, Tryz.ntmps114
  go_wp2_with fail
  refine ha.mono ?_
  rintro e w1 ⟨rfl, b1⟩
  have h1 := h.later b1
  have d1 := h1.c1
  have f1 := h1.fz 1
  have s1 := set_heap h1.h 1 (.int .i64 ((i : Int) + 1))
  have o1 := set_off w1 R.b 1 (.int .i64 ((i : Int) + 1))
  have h2 := h1.put (j := i + 1) (dp' := dp) (fp' := fp) (fy' := 0) o1 hi s1
  have O2 := (Off.of b1 [R.b]).then o1
  clear s1 ha o1
  go_wp2_with fail
  go_end0
  exact ⟨rfl, h2, O2⟩
set_option maxHeartbeats 2000000 in
theorem rtake_no (R : Rc) {w : World} {i : Nat} {dp fp : Int} (s : Str) (hs : sg (hd R.q (R.T.drop i)) s = false) (h : Pd R w i dp fp 0) (hi : i + 1 ≤ R.n + 100) : Calls Tryz.prog 114 #[R.ptr, tx s] w fun e w' => e = .returned (.tuple #[]) ∧ Pd R w' (i + 1) dp (hd R.q (R.T.drop i)).p 71 ∧ Off [R.b] w w' := by
  have ha := rsign_any R s h
  rw [hs] at ha
  have hf := fun W (hW : Pd R W i dp fp 0) => fail_new R 71 hW
  have c3 := h.c3
  have hnb := h.nb
  have hle : (i : Int) + 1 ≤ 1000101 := by omega
  clear hs
  generalize (hd R.q (R.T.drop i)).p = xp at *
  go_enter Tryz.func114, Tryz.ntmps114
  go_wp2_with fail
  refine ha.mono ?_
  rintro e w1 ⟨rfl, b1⟩
  have h1 := h.later b1
  go_wp2_with fail
  refine (hf _ h1).mono ?_
  rintro e w2 ⟨rfl, h2, o2⟩
  have d1 := h2.c1
  have f1 := h2.fz 1
  have s1 := set_heap h2.h 1 (.int .i64 ((i : Int) + 1))
  have o1 := set_off w2 R.b 1 (.int .i64 ((i : Int) + 1))
  have h3 := h2.put (j := i + 1) (dp' := dp) (fp' := xp) (fy' := 71) o1 hi s1
  have O2 := ((Off.of b1 [R.b]).then o2).then o1
  clear s1 ha o1 hf
  go_wp2_with fail
  go_end0
  exact ⟨rfl, h3, O2⟩
set_option maxHeartbeats 2000000 in
theorem rdown_yes (R : Rc) {w : World} {i : Nat} {dp fp fy : Int} (hd0 : 0 ≤ dp) (hd1 : dp < 15) (h : Pd R w i dp fp fy) : Calls Tryz.prog 112 #[R.ptr] w fun e w' => e = .returned (.bool true) ∧ Pd R w' i (dp + 1) fp fy ∧ Off [R.b] w w' := by
  have c2 := h.c2
  have f2 := h.fz 2
  have hg : ¬ dp ≥ 15 := by omega
  have s1 := set_heap h.h 2 (.int .i64 (dp + 1))
  have o1 := set_off w R.b 2 (.int .i64 (dp + 1))
  have h1 := h.put (j := i) (dp' := dp + 1) (fp' := fp) (fy' := fy) o1 h.ib s1
  clear s1
  go_enter Tryz.func112, Tryz.ntmps112
  go_wp2_with fail
  go_ret
  exact ⟨rfl, h1, o1⟩
set_option maxHeartbeats 2000000 in
theorem rdown_no (R : Rc) {w : World} {i : Nat} {dp fp : Int} (hd1 : 15 ≤ dp) (h : Pd R w i dp fp 0) : Calls Tryz.prog 112 #[R.ptr] w fun e w' => e = .returned (.bool false) ∧ Pd R w' i dp (hd R.q (R.T.drop i)).p 72 ∧ Off [R.b] w w' := by
  have c2 := h.c2
  have hg : dp ≥ 15 := hd1
  have hf := fail_new R 72 h
  generalize (hd R.q (R.T.drop i)).p = xp at *
  go_enter Tryz.func112, Tryz.ntmps112
  go_wp2_with fail
  refine hf.mono ?_
  rintro e w1 ⟨rfl, h1, o1⟩
  go_wp2_with fail
  go_ret
  exact ⟨rfl, h1, o1⟩
theorem rMod_any (s : Str) (w : World) : Calls Tryz.prog 68 #[tx s] w fun e w' => e = .returned (.bool (isModB s)) ∧ w = w' := by
  unfold isModB wOn wIgn
  cases h1 : s == [111, 110] <;> cases h2 : s == [105, 103, 110, 111, 114, 105, 110, 103] <;> (go_enter Tryz.func68, Tryz.ntmps68; go_wp2_with fail; go_ret; exact ⟨by rfl, rfl⟩)
theorem rAgg_any (s : Str) (w : World) : Calls Tryz.prog 127 #[tx s] w fun e w' => e = .returned (.bool (isAggB s)) ∧ Below w.heap.size w w' := by
  have ha := among_any s aggW rfl w
  rw [agg_w] at ha
  simp only [aggW, List.map_cons, List.map_nil] at ha
  generalize isAggB s = r at *
  go_enter Tryz.func127, Tryz.ntmps127
  go_wp2_with fail
  refine ha.mono ?_
  rintro e w1 ⟨rfl, b1⟩
  go_wp2_with fail
  go_ret
  exact ⟨rfl, b1⟩
end Go.Proofs.YteankdaegdhfiaaGreatDoor
/- The reference's words: a matcher's sign, its kind; whether a name stands twice. -/
namespace Go.Proofs.YteankdaegdhfiaaGreatDoor
open Go.RowKit

theorem inf160 : (Tryz.prog.info? 215).map (·.size) = some 5 := by kernel_rfl
set_option maxHeartbeats 2000000 in
theorem rOp_any (k : Nat) (h1 : 1 ≤ k) (h4 : k ≤ 4) (w : World) : Calls Tryz.prog 139 #[.int .i64 k] w fun e w' => e = .returned (tx (mSg k)) ∧ Below w.heap.size w w' := by
  have q0 : ∀ o, (w.alloc (.cells o 215)).heap[w.heap.size]? = some (.cells o 215) := fun o => heap_new w _
  have B0 : ∀ o, Below w.heap.size w (w.alloc (.cells o 215)) := fun o => bal (Below.refl w.heap.size w) _
  have hc : ∀ W : World, W.heap[w.heap.size]? = some (.cells #[tx [], tx [61], tx [33, 61], tx [94, 61], tx [42, 61]] 215) → W.cell? ⟨w.heap.size, k, none⟩ = some (tx (mSg k)) := fun W hW => by
    rw [cell_at hW]
    rcases (by omega : k = 1 ∨ k = 2 ∨ k = 3 ∨ k = 4) with rfl | rfl | rfl | rfl <;> rfl
  generalize mSg k = s at *
  go_enter Tryz.func139, Tryz.ntmps139
  go_wp2_with (refine wp_put rfl 215 _ _ rfl w.heap.size #[tx [], tx [61], tx [33, 61], tx [94, 61], tx [42, 61]] rfl rfl _ 215 (q0 _) 5 inf160 rfl ⟨rfl, rfl⟩ ?_; intro w2 q2 o2 z2; clear z2; have c2 := hc _ q2)
  go_ret
  exact ⟨rfl, ((Off.of (B0 _) [w.heap.size]).then o2).below (by simp)⟩
theorem mkd_none {s : Str} (h : ∀ m : Nat, 1 ≤ m → m < 5 → mSg m ≠ s) : mkd s = 0 := by
  unfold mkd
  rw [if_neg (fun e => h 1 (by omega) (by omega) e.symm), if_neg (fun e => h 2 (by omega) (by omega) e.symm), if_neg (fun e => h 3 (by omega) (by omega) e.symm), if_neg (fun e => h 4 (by omega) (by omega) e.symm)]
theorem mkd_some {s : Str} {j : Nat} (h1 : 1 ≤ j) (h4 : j ≤ 4) (h : mSg j = s) : mkd s = j := by
  subst h
  rcases (by omega : j = 1 ∨ j = 2 ∨ j = 3 ∨ j = 4) with rfl | rfl | rfl | rfl <;> decide
set_option maxHeartbeats 2000000 in
theorem rkind_any (s : Str) (w : World) : Calls Tryz.prog 248 #[tx s] w fun e w' => e = .returned (.int .i64 (mkd s)) ∧ Below w.heap.size w w' := by
  have hop := fun (j : Nat) (h1 : 1 ≤ j) (h4 : j ≤ 4) W => rOp_any j h1 h4 W
  have HO : Hid _ := hop
  clear hop
  obtain ⟨V, HV⟩ : ∃ V, Hid (mkd s = V) := ⟨_, rfl⟩
  rw [HV.out]
  go_enter Tryz.func248, Tryz.ntmps248
  go_wp2_with fail
  go_loopw [3] (fun i wr => ∃ j : Nat, 1 ≤ j ∧ j ≤ 5 ∧ i = .int .i64 j ∧ Below w.heap.size w wr ∧ Hid (∀ m : Nat, 1 ≤ m → m < j → mSg m ≠ s)) (fun i _ => 5 - (intOf i).toNat)
  case atStart => exact ⟨1, by omega, by omega, rfl, Below.refl _ _, fun m h1 h2 => by omega⟩
  case round =>
    obtain ⟨j, hj1, hj5, rfl, B, HQ⟩ := hrel
    by_cases hlt : j ≤ 4
    · have hlt' : (j : Int) ≤ 4 := by omega
      have ho := HO.out j hj1 hlt
      by_cases he : mSg j = s
      · have HR : Hid (V = (j : Int)) := by show _ = _; rw [← HV.out]; exact mkd_some hj1 hlt he
        have he1 : (mSg j == s) = true := by rw [beq_iff_eq]; exact he
        generalize mSg j = x at *
        clear he HQ
        go_wp2_with fail
        refine (ho _).mono ?_
        rintro e w1 ⟨rfl, b1⟩
        go_wp2_with fail
        go_ret
        exact ⟨by rw [HR.out]; rfl, B.trans (b1.mono B.size)⟩
      · have HN : Hid (∀ m : Nat, 1 ≤ m → m < j + 1 → mSg m ≠ s) := fun m h1 h2 => by
          by_cases e : m = j
          · rw [e]; exact he
          · exact HQ.out m h1 (by omega)
        have he1 : (mSg j == s) = false := by rw [beq_eq_false_iff_ne]; exact he
        clear he HQ
        obtain ⟨x, hx⟩ : ∃ x, Hid (mSg j = x) := ⟨_, rfl⟩
        rw [hx.out] at ho he1
        go_wp2_with fail
        refine (ho _).mono ?_
        rintro e w1 ⟨rfl, b1⟩
        go_wp2_with fail
        go_roundw
        case rel => exact ⟨j + 1, by omega, by omega, by go_num, B.trans (b1.mono B.size), HN⟩
        case measure => simp [intOf]; omega
    · have hlt' : ¬ (j : Int) ≤ 4 := by omega
      have HR : Hid (V = 0) := by show _ = _; rw [← HV.out]; exact mkd_none (fun m h1 h2 => HQ.out m h1 (by omega))
      clear HQ
      go_wp2_with fail
      go_ret
      exact ⟨by rw [HR.out]; rfl, B⟩
/-! ### Twice -/
theorem once_all : ∀ (l : List Str), (∀ a b, b < a → a < l.length → l.getD a [] ≠ l.getD b []) → once l = true
  | [], _ => rfl
  | x :: l, h => by
    rw [once, once_all l (fun a b hb ha => by
      have := h (a + 1) (b + 1) (by omega) (by simpa using ha)
      simpa using this), Bool.and_true, Bool.not_eq_true']
    cases hc : l.contains x with
    | false => rfl
    | true =>
      obtain ⟨a, ha, e⟩ := List.getElem_of_mem (List.contains_iff_mem.1 hc)
      have := h (a + 1) 0 (by omega) (by simpa using ha)
      simp [List.getD, List.getElem?_eq_getElem ha] at this
      exact absurd e this
theorem once_not : ∀ (l : List Str) (a b : Nat), b < a → a < l.length → l.getD a [] = l.getD b [] → once l = false
  | [], a, b, _, h, _ => by simp at h
  | x :: l, 0, b, hb, _, _ => by omega
  | x :: l, a + 1, 0, _, ha, e => by
    have ha : a < l.length := by simpa using ha
    have : l.contains x = true := by
      rw [List.contains_iff_mem]
      have e : l[a] = x := by simpa [List.getD, List.getElem?_eq_getElem ha] using e
      rw [← e]
      exact List.getElem_mem ha
    rw [once, this]
    rfl
  | x :: l, a + 1, b + 1, hb, ha, e => by
    have := once_not l a b (by omega) (by simpa using ha) (by simpa using e)
    rw [once, this, Bool.and_false]
set_option maxHeartbeats 4000000 in
theorem rtwice_any (ao : Option Addr) (n c : Nat) (l : List Str) (w : World) (hn : n ≤ 1000000) (h : Ss w ao n l) : Calls Tryz.prog 115 #[.slice ao n c] w fun e w' => e = .returned (.bool (!once l)) ∧ Below w.heap.size w w' := by
  obtain ⟨hl, hs⟩ := h
  have HL : Hid (l.length = n) := hl
  have HS : Hid _ := hs
  obtain ⟨V, HV⟩ : ∃ V, Hid (once l = V) := ⟨_, rfl⟩
  rw [HV.out]
  clear hl hs
  go_enter Tryz.func115, Tryz.ntmps115
  go_wp2_with fail
  go_loopw [3] (fun i wr => ∃ j : Nat, j ≤ n ∧ i = .int .i64 j ∧ Below w.heap.size w wr ∧ Hid (∀ a b, b < a → a < j → l.getD a [] ≠ l.getD b [])) (fun i _ => n - (intOf i).toNat)
  case atStart => exact ⟨0, by omega, rfl, Below.refl _ _, fun a b _ h => by omega⟩
  case round =>
    obtain ⟨j, hj, rfl, B, HQ⟩ := hrel
    by_cases hlt : j < n
    · have hlt' : (j : Int) < n := by omega
      obtain ⟨tb, off, rfl, hc⟩ := HS.out (by omega)
      have HC : Hid _ := hc
      have hcj := hc j hlt
      clear hc
      go_wp2_with fail
      go_loopw [4] (fun i wr => ∃ k : Nat, k ≤ j ∧ i = .int .i64 k ∧ Below w.heap.size w wr ∧ Hid (∀ b, b < k → l.getD j [] ≠ l.getD b [])) (fun i _ => j - (intOf i).toNat)
      case atStart => exact ⟨0, by omega, rfl, B, fun b h => by omega⟩
      case round =>
        clear B
        obtain ⟨k, hk, rfl, B, HK⟩ := hrel
        by_cases hlk : k < j
        · have hlk' : (k : Int) < j := by omega
          have hck := HC.out k (by omega)
          have dj := (B.cell (World.block_lt_of_cell? _ _ hcj)).trans hcj
          have dk := (B.cell (World.block_lt_of_cell? _ _ hck)).trans hck
          by_cases he : l.getD j [] = l.getD k []
          · have HR : Hid (V = false) := by show _ = _; rw [← HV.out]; exact once_not l j k hlk (by rw [HL.out]; exact hlt) he
            have he1 : (l.getD j [] == l.getD k []) = true := by rw [beq_iff_eq]; exact he
            clear he HK HQ hck hcj
            generalize l.getD j [] = x at *
            generalize l.getD k [] = y at *
            go_wp2_with fail
            go_quiet (fail)
            go_wp2
            go_ret
            exact ⟨by rw [HR.out]; rfl, below_drewN B _⟩
          · have HN : Hid (∀ b, b < k + 1 → l.getD j [] ≠ l.getD b []) := fun b hb => by
              by_cases e : b = k
              · rw [e]; exact he
              · exact HK.out b (by omega)
            have he1 : (l.getD j [] == l.getD k []) = false := by rw [beq_eq_false_iff_ne]; exact he
            clear he HK hck
            obtain ⟨x, hx⟩ : ∃ x, Hid (l.getD j [] = x) := ⟨_, rfl⟩
            obtain ⟨y, hy⟩ : ∃ y, Hid (l.getD k [] = y) := ⟨_, rfl⟩
            rw [hx.out] at dj he1
            rw [hy.out] at dk he1
            clear hcj
            go_wp2_with fail
            go_quiet (fail)
            go_wp2
            go_roundw
            case rel => exact ⟨k + 1, by omega, by go_num, below_drewN B _, HN⟩
            case measure => simp [intOf]; omega
        · have hlk' : ¬ (k : Int) < j := by omega
          have HN : Hid (∀ a b, b < a → a < j + 1 → l.getD a [] ≠ l.getD b []) := fun a b hb ha => by
            by_cases e : a = j
            · rw [e]; exact HK.out b (by omega)
            · exact HQ.out a b hb (by omega)
          clear HK HQ hcj
          go_wp2_with fail
          go_roundw
          case rel => exact ⟨j + 1, by omega, by go_num, B, HN⟩
          case measure => simp [intOf]; omega
    · have hlt' : ¬ (j : Int) < n := by omega
      have HR : Hid (V = true) := by show _ = _; rw [← HV.out]; exact once_all l (fun a b hb ha => HQ.out a b hb (by rw [HL.out] at ha; omega))
      clear HQ
      go_wp2_with fail
      go_ret
      exact ⟨by rw [HR.out]; rfl, B⟩
end Go.Proofs.YteankdaegdhfiaaGreatDoor
/- The reference: whether a number, a list of names are such as an expression has. -/
namespace Go.Proofs.YteankdaegdhfiaaGreatDoor
open Go.RowKit

theorem inf24 : (Tryz.prog.info? 24).map (·.size) = some 2 := by kernel_rfl
def rNum (o : Bool) (v : Int) : Bool := Fx.fIs o v && !o && decide (0 ≤ v)
set_option maxHeartbeats 4000000 in
theorem rnum_any (o : Bool) (v : Int) (w : World) (h0 : -9223372036854775808 ≤ v) : Calls Tryz.prog 125 #[.agg #[.bool o, .int .i64 v]] w fun e w' => e = .returned (.bool (rNum o v)) ∧ Below w.heap.size w w' := by
  have hI := fun W => Fx.ris_all9 o v W h0
  have q := heap_new w (.cells #[.bool o, .int .i64 v] 24)
  have B := bal (Below.refl w.heap.size w) (.cells #[.bool o, .int .i64 v] 24)
  unfold rNum
  generalize Fx.fIs o v = z at *
  cases z with
  | false =>
    go_enter Tryz.func125, Tryz.ntmps125
    go_upto_region 1 with fail
    generalize w.alloc (.cells #[.bool o, .int .i64 v] 24) = w1 at *
    go_wp2_with (refine wp_get rfl 24 _ rfl w.heap.size _ 24 rfl q _ Tryz.underlying24 rfl 2 inf24 rfl ?_)
    refine (hI _).mono ?_
    rintro e w2 ⟨rfl, b2⟩
    go_wp2_with fail
    go_ret
    exact ⟨by simp, B.trans (b2.mono B.size)⟩
  | true =>
    cases o with
    | true =>
      go_enter Tryz.func125, Tryz.ntmps125
      go_upto_region 1 with fail
      generalize w.alloc (.cells #[.bool true, .int .i64 v] 24) = w1 at *
      go_wp2_with (refine wp_get rfl 24 _ rfl w.heap.size _ 24 rfl q _ Tryz.underlying24 rfl 2 inf24 rfl ?_)
      refine (hI _).mono ?_
      rintro e w2 ⟨rfl, b2⟩
      have x0 := (cell_at (below_heap b2 q) 0).trans rfl
      have x1 := (cell_at (below_heap b2 q) 1).trans rfl
      go_wp2_with fail
      go_ret
      exact ⟨by simp, B.trans (b2.mono B.size)⟩
    | false =>
      go_enter Tryz.func125, Tryz.ntmps125
      go_upto_region 1 with fail
      generalize w.alloc (.cells #[.bool false, .int .i64 v] 24) = w1 at *
      go_wp2_with (refine wp_get rfl 24 _ rfl w.heap.size _ 24 rfl q _ Tryz.underlying24 rfl 2 inf24 rfl ?_)
      refine (hI _).mono ?_
      rintro e w2 ⟨rfl, b2⟩
      have x0 := (cell_at (below_heap b2 q) 0).trans rfl
      have x1 := (cell_at (below_heap b2 q) 1).trans rfl
      go_wp2_with fail
      go_ret
      exact ⟨by simp, B.trans (b2.mono B.size)⟩
def rNms (l : List Str) (b : Bool) : Bool := l.all fName && (if b = true then fewN l else decide (l.length = 0))
theorem all_fn_step (l : List Str) (j : Nat) (h : j < l.length) : (l.take (j + 1)).all fName = ((l.take j).all fName && fName (l.getD j [])) := by
  rw [List.take_add_one, List.all_append, List.getElem?_eq_getElem h]
  simp [List.getD, List.getElem?_eq_getElem h]
theorem all_fn_no (l : List Str) (j : Nat) (h : j < l.length) (hn : fName (l.getD j []) = false) : l.all fName = false := by
  rw [List.all_eq_false]
  refine ⟨l[j], List.getElem_mem h, ?_⟩
  simp [List.getD, List.getElem?_eq_getElem h] at hn
  simp [hn]
set_option maxHeartbeats 8000000 in
theorem rnames9_any {P : Nat → Prop} {a : Option Addr} {n c : Nat} {l : List Str} {w : World} (b : Bool) (h : SlP P w (.slice a n c) l.length (l.map tx)) (hb : ∀ x ∈ l, Big x) (hn : n ≤ 9223372036854775807) :
    Calls Tryz.prog 181 #[.slice a n c, .bool b] w fun e w' => e = .returned (.bool (rNms l b)) ∧ Below w.heap.size w w' := by
  obtain ⟨hnl, _, hcell⟩ := SlP.strs h
  have HN : Hid (n = l.length) := hnl
  have HC : Hid _ := hcell
  have HB : Hid _ := hb
  have HT : Hid (n ≤ 8 → ∀ W, Below w.heap.size w W → Calls Tryz.prog 115 #[.slice a n c] W fun e w' => e = .returned (.bool (!once l)) ∧ Below W.heap.size W w') := fun h8 W hW => rtwice_any a n c l W (by omega) (by
    obtain ⟨_, _, hc2⟩ := SlP.strs (h.later hW)
    refine ⟨hnl.symm, fun hp => ?_⟩
    obtain ⟨b0, off0, e0, _⟩ := hc2 0 hp
    refine ⟨b0, off0, e0, fun j hj => ?_⟩
    obtain ⟨b1, off1, e1, c1⟩ := hc2 j hj
    rw [e0] at e1
    injection e1 with e1
    injection e1 with e1 e2
    subst e1 e2
    exact c1)
  have HD : Hid (rNms l b = (l.all fName && (if b = true then fewN l else decide (l.length = 0)))) := rfl
  have HF : Hid (fewN l = (decide (l.length ≤ 8) && once l)) := rfl
  generalize rNms l b = RES at *
  clear h hnl hcell hb
  go_enter Tryz.func181, Tryz.ntmps181
  go_wp2_with fail
  go_loopw [5] (fun i wr => ∃ j : Nat, j ≤ n ∧ i = .int .i64 j ∧ Below w.heap.size w wr ∧ Hid ((l.take j).all fName = true)) (fun i _ => n - (intOf i).toNat)
  case atStart => exact ⟨0, by omega, rfl, Below.refl _ _, rfl⟩
  case round =>
    obtain ⟨j, hj, rfl, B, HA⟩ := hrel
    by_cases hlt : j < n
    · have hlt' : (j : Int) < n := by omega
      have hjl : Hid (j < l.length) := by have := HN.out; show _ < _; omega
      obtain ⟨b0, off, rfl, c0⟩ := HC.out j hlt
      have c1 := (Off.of B []).cell c0 (by simp)
      have HS : Hid ((l.take (j + 1)).all fName = ((l.take j).all fName && fName (l.getD j []))) := all_fn_step l j hjl.out
      have HV : Hid (fName (l.getD j []) = false → l.all fName = false) := all_fn_no l j hjl.out
      have hbg : Big (l.getD j []) := HB.out _ (by rw [List.getD, List.getElem?_eq_getElem hjl.out]; exact List.getElem_mem hjl.out)
      have hnm := fun W => refName_any (l.getD j []) W hbg
      clear c0 hbg
      generalize l.getD j [] = u at *
      cases hq : fName u with
      | true =>
        have HR : Hid ((l.take (j + 1)).all fName = true) := by show _ = _; rw [HS.out, HA.out, hq]; rfl
        simp only [hq] at hnm
        clear HS HV HA hq
        go_wp2_with fail
        refine (hnm _).mono ?_
        rintro e w2 ⟨rfl, rfl⟩
        go_wp2_with fail
        go_roundw
        case rel => exact ⟨j + 1, by omega, by go_num, B, HR⟩
        case measure => simp [intOf]; omega
      | false =>
        have HR : Hid (RES = false) := by show _ = _; rw [HD.out, HV.out hq]; rfl
        simp only [hq] at hnm
        clear HS HV HA hq HD HF
        go_wp2_with fail
        refine (hnm _).mono ?_
        rintro e w2 ⟨rfl, rfl⟩
        go_wp2_with fail
        go_ret
        exact ⟨by rw [HR.out]; rfl, B⟩
    · have hlt' : ¬ (j : Int) < n := by omega
      have HR : Hid (RES = if b = true then fewN l else decide (l.length = 0)) := by
        have h1 := HN.out
        have h2 := HA.out
        rw [List.take_of_length_le (by omega)] at h2
        show _ = _
        rw [HD.out, h2]
        rfl
      clear HA HD HC HB
      cases b with
      | true =>
        by_cases h8 : n ≤ 8
        · have h8' : (n : Int) ≤ 8 := by omega
          have hT := HT.out h8 _ B
          have HR2 : Hid (RES = once l) := by
            have h1 := HN.out
            show _ = _
            rw [HR.out, if_pos rfl, HF.out, decide_eq_true (by omega)]
            rfl
          clear HR HT HF
          generalize once l = z at *
          go_wp2_with fail
          refine hT.mono ?_
          rintro e w2 ⟨rfl, b2⟩
          cases z with
          | true =>
            go_wp2_with fail
            go_ret
            exact ⟨by rw [HR2.out]; rfl, B.trans (b2.mono B.size)⟩
          | false =>
            go_wp2_with fail
            go_ret
            exact ⟨by rw [HR2.out]; rfl, B.trans (b2.mono B.size)⟩
        · have h8' : ¬ (n : Int) ≤ 8 := by omega
          have HR2 : Hid (RES = false) := by
            have h1 := HN.out
            show _ = _
            rw [HR.out, if_pos rfl, HF.out, decide_eq_false (by omega)]
            rfl
          clear HR HT HF
          go_wp2_with fail
          go_ret
          exact ⟨by rw [HR2.out]; rfl, B⟩
      | false =>
        by_cases h0 : n = 0
        · have HR2 : Hid (RES = true) := by
            have h1 := HN.out
            show _ = _
            rw [HR.out, if_neg (by simp), decide_eq_true (by omega)]
          have h0' : ((n : Int) == 0) = true := by rw [beq_iff_eq]; omega
          clear HR HT HF h0
          go_wp2_with fail
          go_ret
          exact ⟨by rw [HR2.out]; rfl, B⟩
        · have HR2 : Hid (RES = false) := by
            have h1 := HN.out
            show _ = _
            rw [HR.out, if_neg (by simp), decide_eq_false (by omega)]
          have h0' : ((n : Int) == 0) = false := by rw [beq_eq_false_iff_ne]; omega
          clear HR HT HF
          go_wp2_with fail
          go_ret
          exact ⟨by rw [HR2.out]; rfl, B⟩
end Go.Proofs.YteankdaegdhfiaaGreatDoor
/- The reference: whether an expression has nothing but what its kind has. -/
namespace Go.Proofs.YteankdaegdhfiaaGreatDoor
open Go.RowKit

/-- What it has, told by five answers. -/
def rOnl (k : Int) (s : Str) (b1 b2 b3 b4 : Bool) (ns : List Str) (vz mz bz oz nz : Bool) : Bool :=
  if k = 1 then s == [] && mz && bz && oz && nz
  else if k = 2 then vz && s == [] && bz && oz && nz
  else if k = 3 then vz && mz && bz && oz && nz
  else if k = 4 then vz && mz && oz && !(b1 && b2) && rNms ns (b1 || b2)
  else if k = 5 then vz && mz && bz && !(b3 && b4) && rNms ns (b3 || b4)
  else vz && s == [] && mz && bz && oz && nz
set_option maxHeartbeats 8000000 in
set_option maxRecDepth 20000 in
theorem only_row {P : Nat → Prop} (k p : Int) (o : Bool) (v : Int) (s : Str) (am an ao : Option Addr) (nm cm nn cn nk cap : Nat) (r : Int) (b1 b2 b3 b4 : Bool) (ns : List Str) (w : World) (hn : SlP P w (.slice an nn cn) ns.length (ns.map tx)) (hb : ∀ x ∈ ns, Big x) (hl : nn ≤ 9223372036854775807) :
    Calls Tryz.prog 124 #[.agg (exA k p o v s (.slice am nm cm) r b1 b2 b3 b4 (.slice an nn cn) (.slice ao nk cap))] w fun e w' => e = .returned (.bool (rOnl k s b1 b2 b3 b4 ns (nEq o v false 0) (((nm : Int) == 0) && (r == 0)) (!b1 && !b2) (!b3 && !b4) ((nn : Int) == 0))) ∧ Below w.heap.size w w' := by
  have hnm := fun (c : Bool) W (hW : Below w.heap.size w W) => rnames9_any c (hn.later hW) hb hl
  have q := heap_new w (.cells (exA k p o v s (.slice am nm cm) r b1 b2 b3 b4 (.slice an nn cn) (.slice ao nk cap)) 29)
  have B1 := bal (Below.refl w.heap.size w) (.cells (exA k p o v s (.slice am nm cm) r b1 b2 b3 b4 (.slice an nn cn) (.slice ao nk cap)) 29)
  have hv := fun W => eql_num o false v 0 W
  have hg := fun x y xs ys W => guard_num x y xs ys W
  clear hn hb
  generalize nEq o v false 0 = VZ at *
  generalize hM : ((nm : Int) == 0) = M0 at *
  generalize hR : (r == 0) = R0 at *
  generalize hN : ((nn : Int) == 0) = N0 at *
  obtain ⟨MZ, HMZ⟩ : ∃ z, Hid ((M0 && R0) = z) := ⟨M0 && R0, rfl⟩
  obtain ⟨BZ, HBZ⟩ : ∃ z, Hid ((!b1 && !b2) = z) := ⟨!b1 && !b2, rfl⟩
  obtain ⟨OZ, HOZ⟩ : ∃ z, Hid ((!b3 && !b4) = z) := ⟨!b3 && !b4, rfl⟩
  rw [HMZ.out, HBZ.out, HOZ.out]
  obtain ⟨RES, HRES⟩ : ∃ z, Hid (rOnl k s b1 b2 b3 b4 ns VZ MZ BZ OZ N0 = z) := ⟨rOnl k s b1 b2 b3 b4 ns VZ MZ BZ OZ N0, rfl⟩
  rw [HRES.out]
  go_enter Tryz.func124, Tryz.ntmps124
  go_upto_region 1 with fail
  generalize w.alloc (.cells (exA k p o v s (.slice am nm cm) r b1 b2 b3 b4 (.slice an nn cn) (.slice ao nk cap)) 29) = w1 at *
  have x0 := (cell_at q 0).trans rfl
  have x1 := (cell_at q 1).trans rfl
  have x2 := (cell_at q 2).trans rfl
  have x3 := (cell_at q 3).trans rfl
  have x4 := (cell_at q 4).trans rfl
  have x5 := (cell_at q 5).trans rfl
  have x6 := (cell_at q 6).trans rfl
  have x7 := (cell_at q 7).trans rfl
  have x8 := (cell_at q 8).trans rfl
  have x9 := (cell_at q 9).trans rfl
  have x10 := (cell_at q 10).trans rfl
  have x11 := (cell_at q 11).trans rfl
  have x12 := (cell_at q 12).trans rfl
  go_cut [3, 4, 5, 6] from 8 to 36 (fun a b c d wr => a = .bool VZ ∧ b = .bool MZ ∧ c = .bool BZ ∧ d = .bool OZ ∧ Below w1.heap.size w1 wr)
  case first =>
    cases M0 <;> cases b1 <;> cases b3 <;> (
      go_quiet (fail)
      go_wp2_with fail
      go_meet
      case rel => exact ⟨rfl, by rw [← HMZ.out]; rfl, by rw [← HBZ.out]; rfl, by rw [← HOZ.out]; rfl, below_drewN (Below.refl _ _) _⟩)
  case rest =>
    obtain ⟨rfl, rfl, rfl, rfl, C⟩ := hcut
    have B2 := B1.trans (C.mono B1.size)
    have q2 := below_heap C q
    clear x0 x1 x2 x3 x4 x5 x6 x7 x8 x9 x10 x11 x12 hv hg
    have x0 := (cell_at q2 0).trans rfl
    have x4 := (cell_at q2 4).trans rfl
    have x7 := (cell_at q2 7).trans rfl
    have x8 := (cell_at q2 8).trans rfl
    have x9 := (cell_at q2 9).trans rfl
    have x10 := (cell_at q2 10).trans rfl
    have x11 := (cell_at q2 11).trans rfl
    clear HMZ HBZ HOZ hM hR
    by_cases h1 : k = 1
    · subst h1
      generalize hS : (s == []) = S0 at *
      cases S0 with
      | false =>
        go_wp2_with fail
        go_ret
        exact ⟨by rw [← HRES.out]; unfold rOnl; rw [if_pos rfl, hS]; rfl, B2⟩
      | true =>
        cases MZ with
        | false =>
          go_wp2_with fail
          go_ret
          exact ⟨by rw [← HRES.out]; unfold rOnl; rw [if_pos rfl, hS]; rfl, B2⟩
        | true =>
          cases BZ with
          | false =>
            go_wp2_with fail
            go_ret
            exact ⟨by rw [← HRES.out]; unfold rOnl; rw [if_pos rfl, hS]; rfl, B2⟩
          | true =>
            cases OZ with
            | false =>
              go_wp2_with fail
              go_ret
              exact ⟨by rw [← HRES.out]; unfold rOnl; rw [if_pos rfl, hS]; rfl, B2⟩
            | true =>
              cases N0 with
              | false =>
                go_wp2_with fail
                go_ret
                exact ⟨by rw [← HRES.out]; unfold rOnl; rw [if_pos rfl, hS]; rfl, B2⟩
              | true =>
                go_wp2_with fail
                go_ret
                exact ⟨by rw [← HRES.out]; unfold rOnl; rw [if_pos rfl, hS]; rfl, B2⟩
    · skip
      by_cases h2 : k = 2
      · subst h2
        generalize hS : (s == []) = S0 at *
        cases VZ with
        | false =>
          go_wp2_with fail
          go_ret
          exact ⟨by rw [← HRES.out]; unfold rOnl; rw [if_neg (by decide), if_pos rfl, hS]; rfl, B2⟩
        | true =>
          cases S0 with
          | false =>
            go_wp2_with fail
            go_ret
            exact ⟨by rw [← HRES.out]; unfold rOnl; rw [if_neg (by decide), if_pos rfl, hS]; rfl, B2⟩
          | true =>
            cases BZ with
            | false =>
              go_wp2_with fail
              go_ret
              exact ⟨by rw [← HRES.out]; unfold rOnl; rw [if_neg (by decide), if_pos rfl, hS]; rfl, B2⟩
            | true =>
              cases OZ with
              | false =>
                go_wp2_with fail
                go_ret
                exact ⟨by rw [← HRES.out]; unfold rOnl; rw [if_neg (by decide), if_pos rfl, hS]; rfl, B2⟩
              | true =>
                cases N0 with
                | false =>
                  go_wp2_with fail
                  go_ret
                  exact ⟨by rw [← HRES.out]; unfold rOnl; rw [if_neg (by decide), if_pos rfl, hS]; rfl, B2⟩
                | true =>
                  go_wp2_with fail
                  go_ret
                  exact ⟨by rw [← HRES.out]; unfold rOnl; rw [if_neg (by decide), if_pos rfl, hS]; rfl, B2⟩
      · skip
        by_cases h3 : k = 3
        · subst h3
          cases VZ with
          | false =>
            go_wp2_with fail
            go_ret
            exact ⟨by rw [← HRES.out]; unfold rOnl; rw [if_neg (by decide), if_neg (by decide), if_pos rfl]; rfl, B2⟩
          | true =>
            cases MZ with
            | false =>
              go_wp2_with fail
              go_ret
              exact ⟨by rw [← HRES.out]; unfold rOnl; rw [if_neg (by decide), if_neg (by decide), if_pos rfl]; rfl, B2⟩
            | true =>
              cases BZ with
              | false =>
                go_wp2_with fail
                go_ret
                exact ⟨by rw [← HRES.out]; unfold rOnl; rw [if_neg (by decide), if_neg (by decide), if_pos rfl]; rfl, B2⟩
              | true =>
                cases OZ with
                | false =>
                  go_wp2_with fail
                  go_ret
                  exact ⟨by rw [← HRES.out]; unfold rOnl; rw [if_neg (by decide), if_neg (by decide), if_pos rfl]; rfl, B2⟩
                | true =>
                  cases N0 with
                  | false =>
                    go_wp2_with fail
                    go_ret
                    exact ⟨by rw [← HRES.out]; unfold rOnl; rw [if_neg (by decide), if_neg (by decide), if_pos rfl]; rfl, B2⟩
                  | true =>
                    go_wp2_with fail
                    go_ret
                    exact ⟨by rw [← HRES.out]; unfold rOnl; rw [if_neg (by decide), if_neg (by decide), if_pos rfl]; rfl, B2⟩
        · skip
          by_cases h4 : k = 4
          · subst h4
            cases VZ with
            | false =>
              go_wp2_with fail
              go_ret
              exact ⟨by rw [← HRES.out]; unfold rOnl; rw [if_neg (by decide), if_neg (by decide), if_neg (by decide), if_pos rfl]; rfl, B2⟩
            | true =>
              cases MZ with
              | false =>
                go_wp2_with fail
                go_ret
                exact ⟨by rw [← HRES.out]; unfold rOnl; rw [if_neg (by decide), if_neg (by decide), if_neg (by decide), if_pos rfl]; rfl, B2⟩
              | true =>
                cases OZ with
                | false =>
                  go_wp2_with fail
                  go_ret
                  exact ⟨by rw [← HRES.out]; unfold rOnl; rw [if_neg (by decide), if_neg (by decide), if_neg (by decide), if_pos rfl]; rfl, B2⟩
                | true =>
                  cases b1 with
                  | true =>
                    cases b2 with
                    | true =>
                      go_wp2_with fail
                      go_ret
                      exact ⟨by rw [← HRES.out]; unfold rOnl; rw [if_neg (by decide), if_neg (by decide), if_neg (by decide), if_pos rfl]; rfl, B2⟩
                    | false =>
                      have hn := hnm true _ B2
                      generalize hZ : rNms ns true = Z at *
                      go_wp2_with fail
                      refine hn.mono ?_
                      rintro e w3 ⟨rfl, b3'⟩
                      go_wp2_with fail
                      go_ret
                      exact ⟨by rw [← HRES.out]; unfold rOnl; rw [if_neg (by decide), if_neg (by decide), if_neg (by decide), if_pos rfl]; show _ = Ending.returned (Value.bool (true && rNms ns true)); rw [hZ]; cases Z <;> rfl, B2.trans (b3'.mono B2.size)⟩
                  | false =>
                    cases b2 with
                    | true =>
                      have hn := hnm true _ B2
                      generalize hZ : rNms ns true = Z at *
                      go_wp2_with fail
                      refine hn.mono ?_
                      rintro e w3 ⟨rfl, b3'⟩
                      go_wp2_with fail
                      go_ret
                      exact ⟨by rw [← HRES.out]; unfold rOnl; rw [if_neg (by decide), if_neg (by decide), if_neg (by decide), if_pos rfl]; show _ = Ending.returned (Value.bool (true && rNms ns true)); rw [hZ]; cases Z <;> rfl, B2.trans (b3'.mono B2.size)⟩
                    | false =>
                      have hn := hnm false _ B2
                      generalize hZ : rNms ns false = Z at *
                      go_wp2_with fail
                      refine hn.mono ?_
                      rintro e w3 ⟨rfl, b3'⟩
                      go_wp2_with fail
                      go_ret
                      exact ⟨by rw [← HRES.out]; unfold rOnl; rw [if_neg (by decide), if_neg (by decide), if_neg (by decide), if_pos rfl]; show _ = Ending.returned (Value.bool (true && rNms ns false)); rw [hZ]; cases Z <;> rfl, B2.trans (b3'.mono B2.size)⟩
          · skip
            by_cases h5 : k = 5
            · subst h5
              cases VZ with
              | false =>
                go_wp2_with fail
                go_ret
                exact ⟨by rw [← HRES.out]; unfold rOnl; rw [if_neg (by decide), if_neg (by decide), if_neg (by decide), if_neg (by decide), if_pos rfl]; rfl, B2⟩
              | true =>
                cases MZ with
                | false =>
                  go_wp2_with fail
                  go_ret
                  exact ⟨by rw [← HRES.out]; unfold rOnl; rw [if_neg (by decide), if_neg (by decide), if_neg (by decide), if_neg (by decide), if_pos rfl]; rfl, B2⟩
                | true =>
                  cases BZ with
                  | false =>
                    go_wp2_with fail
                    go_ret
                    exact ⟨by rw [← HRES.out]; unfold rOnl; rw [if_neg (by decide), if_neg (by decide), if_neg (by decide), if_neg (by decide), if_pos rfl]; rfl, B2⟩
                  | true =>
                    cases b3 with
                    | true =>
                      cases b4 with
                      | true =>
                        go_wp2_with fail
                        go_ret
                        exact ⟨by rw [← HRES.out]; unfold rOnl; rw [if_neg (by decide), if_neg (by decide), if_neg (by decide), if_neg (by decide), if_pos rfl]; rfl, B2⟩
                      | false =>
                        have hn := hnm true _ B2
                        generalize hZ : rNms ns true = Z at *
                        go_wp2_with fail
                        refine hn.mono ?_
                        rintro e w3 ⟨rfl, b3'⟩
                        go_wp2_with fail
                        go_ret
                        exact ⟨by rw [← HRES.out]; unfold rOnl; rw [if_neg (by decide), if_neg (by decide), if_neg (by decide), if_neg (by decide), if_pos rfl]; show _ = Ending.returned (Value.bool (true && rNms ns true)); rw [hZ]; cases Z <;> rfl, B2.trans (b3'.mono B2.size)⟩
                    | false =>
                      cases b4 with
                      | true =>
                        have hn := hnm true _ B2
                        generalize hZ : rNms ns true = Z at *
                        go_wp2_with fail
                        refine hn.mono ?_
                        rintro e w3 ⟨rfl, b3'⟩
                        go_wp2_with fail
                        go_ret
                        exact ⟨by rw [← HRES.out]; unfold rOnl; rw [if_neg (by decide), if_neg (by decide), if_neg (by decide), if_neg (by decide), if_pos rfl]; show _ = Ending.returned (Value.bool (true && rNms ns true)); rw [hZ]; cases Z <;> rfl, B2.trans (b3'.mono B2.size)⟩
                      | false =>
                        have hn := hnm false _ B2
                        generalize hZ : rNms ns false = Z at *
                        go_wp2_with fail
                        refine hn.mono ?_
                        rintro e w3 ⟨rfl, b3'⟩
                        go_wp2_with fail
                        go_ret
                        exact ⟨by rw [← HRES.out]; unfold rOnl; rw [if_neg (by decide), if_neg (by decide), if_neg (by decide), if_neg (by decide), if_pos rfl]; show _ = Ending.returned (Value.bool (true && rNms ns false)); rw [hZ]; cases Z <;> rfl, B2.trans (b3'.mono B2.size)⟩
            · skip
              generalize hS : (s == []) = S0 at *
              cases VZ with
              | false =>
                go_wp2_with fail
                go_ret
                exact ⟨by rw [← HRES.out]; unfold rOnl; rw [if_neg h1, if_neg h2, if_neg h3, if_neg h4, if_neg h5, hS]; rfl, B2⟩
              | true =>
                cases S0 with
                | false =>
                  go_wp2_with fail
                  go_ret
                  exact ⟨by rw [← HRES.out]; unfold rOnl; rw [if_neg h1, if_neg h2, if_neg h3, if_neg h4, if_neg h5, hS]; rfl, B2⟩
                | true =>
                  cases MZ with
                  | false =>
                    go_wp2_with fail
                    go_ret
                    exact ⟨by rw [← HRES.out]; unfold rOnl; rw [if_neg h1, if_neg h2, if_neg h3, if_neg h4, if_neg h5, hS]; rfl, B2⟩
                  | true =>
                    cases BZ with
                    | false =>
                      go_wp2_with fail
                      go_ret
                      exact ⟨by rw [← HRES.out]; unfold rOnl; rw [if_neg h1, if_neg h2, if_neg h3, if_neg h4, if_neg h5, hS]; rfl, B2⟩
                    | true =>
                      cases OZ with
                      | false =>
                        go_wp2_with fail
                        go_ret
                        exact ⟨by rw [← HRES.out]; unfold rOnl; rw [if_neg h1, if_neg h2, if_neg h3, if_neg h4, if_neg h5, hS]; rfl, B2⟩
                      | true =>
                        cases N0 with
                        | false =>
                          go_wp2_with fail
                          go_ret
                          exact ⟨by rw [← HRES.out]; unfold rOnl; rw [if_neg h1, if_neg h2, if_neg h3, if_neg h4, if_neg h5, hS]; rfl, B2⟩
                        | true =>
                          go_wp2_with fail
                          go_ret
                          exact ⟨by rw [← HRES.out]; unfold rOnl; rw [if_neg h1, if_neg h2, if_neg h3, if_neg h4, if_neg h5, hS]; rfl, B2⟩
end Go.Proofs.YteankdaegdhfiaaGreatDoor
/- The reference: whether an expression is one by itself. -/
namespace Go.Proofs.YteankdaegdhfiaaGreatDoor
open Go.RowKit

/-- How many kids a kind has. -/
def kN (k : Int) : Int := if k = 5 then 2 else if k = 3 ∨ k = 4 ∨ k = 6 then 1 else 0
def kidA : Array Value := #[.int .i64 0, .int .i64 0, .int .i64 0, .int .i64 1, .int .i64 1, .int .i64 2, .int .i64 1]
theorem infA7 : (Tryz.prog.info? 160).map (·.size) = some 7 := by kernel_rfl
theorem kidA_at (k : Nat) (h : k < 7) : kidA[k]? = some (.int .i64 (kN k)) := by
  match k, h with
  | 0, _ => rfl
  | 1, _ => rfl
  | 2, _ => rfl
  | 3, _ => rfl
  | 4, _ => rfl
  | 5, _ => rfl
  | 6, _ => rfl
def rIs (k : Int) (nk : Nat) (o : Bool) (v : Int) (s : Str) (m : List Mt) (r : Int) (on : Bool) : Bool :=
  on && (decide (1 ≤ k) && decide (k ≤ 6) && decide ((nk : Int) = kN k)) && (if k = 1 then rNum o v else if k = 2 then m.all fMat && decide (m.length ≤ 8) && fRange r else if k = 3 then fName s && !isAggB s && !isModB s else if k = 4 then isAggB s else if k = 5 then decide (1 ≤ lv s) else true)
set_option maxHeartbeats 8000000 in
set_option maxRecDepth 20000 in
theorem is_row {P : Nat → Prop} (k p : Int) (o : Bool) (v : Int) (s : Str) (am an ao : Option Addr) (nm cm nn cn nk cap : Nat) (r : Int) (b1 b2 b3 b4 : Bool) (m : List Mt) (ns : List Str) (w : World) (hm : SlP P w (.slice am nm cm) m.length (cellsM m)) (hn : SlP P w (.slice an nn cn) ns.length (ns.map tx)) (hb : ∀ x ∈ ns, Big x) (hbm : ∀ x ∈ m, Big x.name ∧ Big x.text) (hs : Big s) (hl : nn ≤ 9223372036854775807) (hlm : nm ≤ 9223372036854775807) (hv : -9223372036854775808 ≤ v) (on : Bool) (hon : rOnl k s b1 b2 b3 b4 ns (nEq o v false 0) (((nm : Int) == 0) && (r == 0)) (!b1 && !b2) (!b3 && !b4) ((nn : Int) == 0) = on) :
    Calls Tryz.prog 73 #[.agg (exA k p o v s (.slice am nm cm) r b1 b2 b3 b4 (.slice an nn cn) (.slice ao nk cap))] w fun e w' => e = .returned (.bool (rIs k nk o v s m r on)) ∧ Below w.heap.size w w' := by
  have hO := fun W (hW : Below w.heap.size w W) => only_row k p o v s am an ao nm cm nn cn nk cap r b1 b2 b3 b4 ns W (hn.later hW) hb hl
  rw [hon] at hO
  have HM : Hid _ := hm
  have HBM : Hid _ := hbm
  have hN := fun W => rnum_any o v W hv
  have hnm := fun W => refName_any s W hs
  have hag := fun W => rAgg_any s W
  have hmo := fun W => rMod_any s W
  have hle := fun W => level_any s W
  have q := heap_new w (.cells (exA k p o v s (.slice am nm cm) r b1 b2 b3 b4 (.slice an nn cn) (.slice ao nk cap)) 29)
  have B1 := bal (Below.refl w.heap.size w) (.cells (exA k p o v s (.slice am nm cm) r b1 b2 b3 b4 (.slice an nn cn) (.slice ao nk cap)) 29)
  clear hm hn hb hbm hon
  obtain ⟨RES, HRES⟩ : ∃ z, Hid (rIs k nk o v s m r on = z) := ⟨rIs k nk o v s m r on, rfl⟩
  rw [HRES.out]
  go_enter Tryz.func73, Tryz.ntmps73
  go_upto_region 1 with fail
  generalize w.alloc (.cells (exA k p o v s (.slice am nm cm) r b1 b2 b3 b4 (.slice an nn cn) (.slice ao nk cap)) 29) = w1 at *
  go_wp2_with (refine wp_get rfl 29 _ rfl w.heap.size _ 29 rfl q _ Tryz.underlying29 rfl 13 inf29 rfl ?_)
  refine (hO _ B1).mono ?_
  rintro e w2 ⟨rfl, b2⟩
  have B2 := B1.trans (b2.mono B1.size)
  have q2 := below_heap b2 q
  clear hO b2 q
  cases on with
  | false =>
    go_wp2_with fail
    go_ret
    exact ⟨by rw [← HRES.out]; rfl, B2⟩
  | true =>
    have z2 := heap_new w2 (.cells #[.int .i64 0, .int .i64 0, .int .i64 0, .int .i64 0, .int .i64 0, .int .i64 0, .int .i64 0] 160)
    have Ba := bal (Below.refl w2.heap.size w2) (.cells #[.int .i64 0, .int .i64 0, .int .i64 0, .int .i64 0, .int .i64 0, .int .i64 0, .int .i64 0] 160)
    go_upto_region 3 with fail
    go_upto_region 4 with (refine wp_put rfl 160 _ _ rfl w2.heap.size kidA rfl rfl _ 160 z2 7 infA7 rfl ⟨rfl, rfl⟩ ?_; intro w3 q3 o3 z3; clear z3)
    have D3 := ((Off.of Ba []).trans o3 (by simp)).below (by simp)
    have B3 := B2.trans (D3.mono B2.size)
    have q4 := below_heap D3 q2
    clear z2 Ba o3 D3 q2
    simp only [Act.put]
    have x0 := (cell_at q4 0).trans rfl
    have x2 := (cell_at q4 2).trans rfl
    have x3 := (cell_at q4 3).trans rfl
    have x4 := (cell_at q4 4).trans rfl
    have x5 := (cell_at q4 5).trans rfl
    have x6 := (cell_at q4 6).trans rfl
    have x12 := (cell_at q4 12).trans rfl
    go_cut [26] from 9 to 25 (fun a wr => a = .bool (!(decide (1 ≤ k) && decide (k ≤ 6) && decide ((nk : Int) = kN k))) ∧ Below w3.heap.size w3 wr)
    case first =>
      by_cases h1 : 1 ≤ k
      · by_cases h6 : k ≤ 6
        · obtain ⟨K, rfl⟩ : ∃ K : Nat, k = K := ⟨k.toNat, by omega⟩
          have hK : K < 7 := by omega
          have y : w3.cell? ⟨w2.heap.size, K, none⟩ = some (.int .i64 (kN K)) := (cell_at q3 K).trans (kidA_at K hK)
          have t1 : ¬ (K : Int) < 1 := by omega
          have t6 : ¬ (6 : Int) < K := by omega
          have HV : Hid ((!(decide ((1 : Int) ≤ K) && decide ((K : Int) ≤ 6) && decide ((nk : Int) = kN K))) = ((nk : Int) != kN K)) := by
            show _ = _
            rw [decide_eq_true h1, decide_eq_true h6]
            rfl
          generalize kN (K : Int) = D at *
          clear h1 h6
          go_quiet (fail)
          go_wp2_with fail
          go_meet
          case rel => exact ⟨by rw [HV.out], below_drewN (Below.refl _ _) _⟩
        · have t1 : ¬ k < 1 := by omega
          have t6 : (6 : Int) < k := by omega
          go_quiet (fail)
          go_wp2_with fail
          go_meet
          case rel => exact ⟨by simp [h6], below_drewN (Below.refl _ _) _⟩
      · have t1 : k < 1 := by omega
        go_quiet (fail)
        go_wp2_with fail
        go_meet
        case rel => exact ⟨by simp [h1], below_drewN (Below.refl _ _) _⟩
    case rest =>
      obtain ⟨rfl, C⟩ := hcut
      have B4 := B3.trans (C.mono B3.size)
      have q5 := below_heap C q4
      clear x0 x2 x3 x4 x5 x6 x12 q3 q4
      generalize hG : (decide (1 ≤ k) && decide (k ≤ 6) && decide ((nk : Int) = kN k)) = G0 at *
      cases G0 with
      | false =>
        go_wp2_with fail
        go_ret
        exact ⟨by rw [← HRES.out]; unfold rIs; rw [hG]; rfl, B4⟩
      | true =>
        have x0 := (cell_at q5 0).trans rfl
        have x2 := (cell_at q5 2).trans rfl
        have x3 := (cell_at q5 3).trans rfl
        have x4 := (cell_at q5 4).trans rfl
        have x5 := (cell_at q5 5).trans rfl
        have x6 := (cell_at q5 6).trans rfl
        by_cases h1 : k = 1
        · subst h1
          generalize hZ : rNum o v = Z at *
          go_wp2_with fail
          refine (hN _).mono ?_
          rintro e w5 ⟨rfl, b5⟩
          go_wp2_with fail
          go_ret
          exact ⟨by rw [← HRES.out]; unfold rIs; rw [hG, if_pos rfl, hZ]; rfl, B4.trans (b5.mono B4.size)⟩
        · by_cases h2 : k = 2
          · subst h2
            have HN : Hid (nm = m.length) := (SlP.mats HM.out).1
            have HR2 : Hid (RES = (m.all fMat && decide (m.length ≤ 8) && fRange r)) := by
              show _ = _
              rw [← HRES.out]
              unfold rIs
              rw [hG, if_neg (by decide), if_pos rfl]
              rfl
            clear HRES hG hN hnm hag hmo hle x0 x2 x3 x4 x5 x6
            have x0 := (cell_at q5 0).trans rfl
            have x5 := (cell_at q5 5).trans rfl
            go_wp2_with fail
            go_loopw [4] (fun i wr => ∃ j : Nat, j ≤ nm ∧ i = .int .i64 j ∧ Below wc.heap.size wc wr ∧ Hid ((m.take j).all fMat = true)) (fun i _ => nm - (intOf i).toNat)
            case atStart => exact ⟨0, by omega, rfl, Below.refl _ _, rfl⟩
            case round =>
              clear x0 x5
              obtain ⟨j, hj, rfl, D, HA⟩ := hrel
              have BD := B4.trans (D.mono B4.size)
              have q6 := below_heap D q5
              have x5 := (cell_at q6 5).trans rfl
              have x6 := (cell_at q6 6).trans rfl
              by_cases hlt : j < nm
              · have hlt' : (j : Int) < nm := by omega
                have hjl : Hid (j < m.length) := by have := HN.out; show _ < _; omega
                obtain ⟨b, off, rfl, c0, c1, c2⟩ := (SlP.mats (SlP.later HM.out BD)).2.2 j hlt
                have HS : Hid ((m.take (j + 1)).all fMat = ((m.take j).all fMat && fMat (m.getD j ⟨[], 0, []⟩))) := by
                  show _ = _
                  rw [List.take_add_one, List.all_append, List.getElem?_eq_getElem hjl.out]
                  simp [List.getD, List.getElem?_eq_getElem hjl.out]
                have HV : Hid (fMat (m.getD j ⟨[], 0, []⟩) = false → m.all fMat = false) := fun hq => by
                  rw [List.all_eq_false]
                  refine ⟨m[j]'hjl.out, List.getElem_mem hjl.out, ?_⟩
                  simp [List.getD, List.getElem?_eq_getElem hjl.out] at hq
                  simp [hq]
                have hbg : Big (m.getD j ⟨[], 0, []⟩).name ∧ Big (m.getD j ⟨[], 0, []⟩).text := HBM.out _ (by rw [List.getD, List.getElem?_eq_getElem hjl.out]; exact List.getElem_mem hjl.out)
                have him := fun W => refIsM_any (m.getD j ⟨[], 0, []⟩) W hbg.1 hbg.2
                clear hbg
                generalize m.getD j ⟨[], 0, []⟩ = u at *
                cases hq : fMat u with
                | true =>
                  have HR : Hid ((m.take (j + 1)).all fMat = true) := by show _ = _; rw [HS.out, HA.out, hq]; rfl
                  simp only [hq] at him
                  clear HS HV HA hq
                  go_wp2_with fail
                  refine (him _).mono ?_
                  rintro e w5 ⟨rfl, b5⟩
                  go_wp2_with fail
                  go_roundw
                  case rel => repeat (first | exact ⟨⟨j + 1, by omega, by go_num, D.trans (b5.mono D.size), HR⟩, rfl⟩ | apply Exists.intro)
                  case measure => simp [intOf]; omega
                | false =>
                  have HR : Hid (RES = false) := by show _ = _; rw [HR2.out, HV.out hq]; rfl
                  simp only [hq] at him
                  clear HS HV HA hq HR2
                  go_wp2_with fail
                  refine (him _).mono ?_
                  rintro e w5 ⟨rfl, b5⟩
                  go_wp2_with fail
                  go_ret
                  exact ⟨by rw [HR.out]; rfl, BD.trans (b5.mono BD.size)⟩
              · have hlt' : ¬ (j : Int) < nm := by omega
                have HR : Hid (RES = (decide ((nm : Int) ≤ 8) && fRange r)) := by
                  have h1 := HN.out
                  have h2 := HA.out
                  rw [List.take_of_length_le (by omega)] at h2
                  have e8 : decide (m.length ≤ 8) = decide ((nm : Int) ≤ 8) := decide_eq_decide.2 (by omega)
                  show _ = _
                  rw [HR2.out, h2, e8]
                  rfl
                clear HA HR2 HM HBM HN
                by_cases h8 : (nm : Int) ≤ 8
                · by_cases r0 : 0 ≤ r
                  · by_cases r1 : r ≤ 100
                    · go_wp2_with fail
                      go_ret
                      exact ⟨by rw [HR.out]; simp [fRange, h8, r0, r1], BD⟩
                    · go_wp2_with fail
                      go_ret
                      exact ⟨by rw [HR.out]; simp [fRange] <;> omega, BD⟩
                  · go_wp2_with fail
                    go_ret
                    exact ⟨by rw [HR.out]; simp [fRange] <;> omega, BD⟩
                · go_wp2_with fail
                  go_ret
                  exact ⟨by rw [HR.out, decide_eq_false (by omega)]; rfl, BD⟩
          · by_cases h3 : k = 3
            · subst h3
              generalize hA : fName s = A0 at *
              generalize hC : isAggB s = C0 at *
              generalize hD : isModB s = D0 at *
              have HR : Hid (RES = (A0 && !C0 && !D0)) := by
                show _ = _
                rw [← HRES.out]
                unfold rIs
                rw [hG, if_neg (by decide), if_neg (by decide), if_pos rfl, hA, hC, hD]
                rfl
              clear HRES hG hA hC hD
              cases A0 with
              | false =>
                go_wp2_with fail
                refine (hnm _).mono ?_
                rintro e w5 ⟨rfl, rfl⟩
                go_wp2_with fail
                go_ret
                exact ⟨by rw [HR.out]; rfl, B4⟩
              | true =>
                cases C0 with
                | true =>
                  go_wp2_with fail
                  refine (hnm _).mono ?_
                  rintro e w5 ⟨rfl, rfl⟩
                  go_wp2_with fail
                  refine (hag _).mono ?_
                  rintro e w6 ⟨rfl, b6⟩
                  go_wp2_with fail
                  go_ret
                  exact ⟨by rw [HR.out]; rfl, B4.trans (b6.mono B4.size)⟩
                | false =>
                  go_wp2_with fail
                  refine (hnm _).mono ?_
                  rintro e w5 ⟨rfl, rfl⟩
                  go_wp2_with fail
                  refine (hag _).mono ?_
                  rintro e w6 ⟨rfl, b6⟩
                  have y4 := (cell_at (below_heap b6 q5) 4).trans rfl
                  go_wp2_with fail
                  refine (hmo _).mono ?_
                  rintro e w7 ⟨rfl, rfl⟩
                  go_wp2_with fail
                  go_ret
                  exact ⟨by rw [HR.out]; cases D0 <;> rfl, B4.trans (b6.mono B4.size)⟩
            · by_cases h4 : k = 4
              · subst h4
                generalize hC : isAggB s = C0 at *
                go_wp2_with fail
                refine (hag _).mono ?_
                rintro e w6 ⟨rfl, b6⟩
                go_wp2_with fail
                go_ret
                exact ⟨by rw [← HRES.out]; unfold rIs; rw [hG, if_neg (by decide), if_neg (by decide), if_neg (by decide), if_pos rfl, hC]; rfl, B4.trans (b6.mono B4.size)⟩
              · by_cases h5 : k = 5
                · subst h5
                  have HR : Hid (RES = decide (1 ≤ lv s)) := by
                    show _ = _
                    rw [← HRES.out]
                    unfold rIs
                    rw [hG, if_neg (by decide), if_neg (by decide), if_neg (by decide), if_neg (by decide), if_pos rfl]
                    rfl
                  clear HRES hG
                  generalize lv s = L at *
                  by_cases hL : 1 ≤ L
                  · have hL' : 0 ≤ L - 1 := by omega
                    go_wp2_with fail
                    refine (hle _).mono ?_
                    rintro e w6 ⟨rfl, b6⟩
                    go_wp2_with fail
                    go_ret
                    exact ⟨by rw [HR.out]; simp <;> omega, B4.trans (b6.mono B4.size)⟩
                  · have hL' : ¬ 0 ≤ L - 1 := by omega
                    go_wp2_with fail
                    refine (hle _).mono ?_
                    rintro e w6 ⟨rfl, b6⟩
                    go_wp2_with fail
                    go_ret
                    exact ⟨by rw [HR.out]; simp <;> omega, B4.trans (b6.mono B4.size)⟩
                · go_wp2_with fail
                  go_ret
                  exact ⟨by rw [← HRES.out]; unfold rIs; rw [hG, if_neg h1, if_neg h2, if_neg h3, if_neg h4, if_neg h5]; rfl, B4⟩
end Go.Proofs.YteankdaegdhfiaaGreatDoor
/- The reference's word on an expression is the program's: in plain words. -/
namespace Go.Proofs.YteankdaegdhfiaaGreatDoor
open Go.RowKit

theorem msEq_refl9 : ∀ m, msEq m m = true
  | [] => by simp [msEq]
  | x :: m => by rw [msEq, msEq_refl9 m]; simp [mEq]
theorem msEq_nil (m : List Mt) : msEq m [] = ((m.length : Int) == 0) := by
  cases m with
  | nil => rfl
  | cons x m =>
    have : (((x :: m).length : Int) == 0) = false := by rw [beq_eq_false_iff_ne, List.length_cons]; omega
    rw [this]
    rfl
theorem nsEq_nil (m : List Str) : decide (m = []) = ((m.length : Int) == 0) := by
  cases m with
  | nil => rfl
  | cons x m =>
    have : (((x :: m).length : Int) == 0) = false := by rw [beq_eq_false_iff_ne, List.length_cons]; omega
    rw [this]
    rfl
theorem nEq_self (o : Bool) (v : Int) : nEq o v o v = true := by simp [nEq]
theorem fGrp_r (a b : Bool) (ns : List Str) : fGrp a b ns = (!(a && b) && rNms ns (a || b)) := by
  unfold fGrp rNms
  cases a <;> cases b
  · cases ns <;> simp
  · simp [Bool.and_comm]
  · simp [Bool.and_comm]
  · simp
theorem lv_in (s : Str) : lv s = 0 ∨ 1 ≤ lv s := by
  unfold lv
  repeat' split
  all_goals omega
theorem lv_ne (s : Str) : (lv s != 0) = decide (1 ≤ lv s) := by
  rcases lv_in s with h | h
  · rw [h]; rfl
  · rw [decide_eq_true h, bne_iff_ne]; omega
abbrev onE (e : Ex) : Bool := rOnl e.k e.s e.b1 e.b2 e.b3 e.b4 e.ns (nEq e.o e.v false 0) (((e.m.length : Int) == 0) && (e.r == 0)) (!e.b1 && !e.b2) (!e.b3 && !e.b4) ((e.ns.length : Int) == 0)
theorem rIs_eq (e : Ex) : rIs e.k e.ks.length e.o e.v e.s e.m e.r (onE e) = (alk e (ownE e) && kindE e) := by
  obtain ⟨k, p, o, v, s, m, r, b1, b2, b3, b4, ns, ks⟩ := e
  unfold onE alk kindE
  dsimp only
  have e0 : decide ((ks.length : Int) = 0) = decide (ks.length = 0) := decide_eq_decide.2 (by omega)
  have e1 : decide ((ks.length : Int) = 1) = decide (ks.length = 1) := decide_eq_decide.2 (by omega)
  have e2 : decide ((ks.length : Int) = 2) = decide (ks.length = 2) := decide_eq_decide.2 (by omega)
  by_cases h1 : k = 1
  · subst h1
    rw [show rIs 1 ks.length o v s m r (rOnl 1 s b1 b2 b3 b4 ns (nEq o v false 0) (((m.length : Int) == 0) && (r == 0)) (!b1 && !b2) (!b3 && !b4) ((ns.length : Int) == 0)) = ((s == [] && (((m.length : Int) == 0) && (r == 0)) && (!b1 && !b2) && (!b3 && !b4) && ((ns.length : Int) == 0)) && decide ((ks.length : Int) = 0) && (Fx.fIs o v && !o && decide (0 ≤ v))) from rfl]
    rw [show ownE ⟨1, p, o, v, s, m, r, b1, b2, b3, b4, ns, ks⟩ = ⟨1, 0, o, v, [], [], 0, false, false, false, false, [], []⟩ from rfl]
    rw [show fK 1 ks.length o v s m r b1 b2 b3 b4 ns = (decide (ks.length = 0) && Fx.fIs o v && !o && decide (0 ≤ v)) from rfl]
    dsimp only
    rw [nEq_self, msEq_nil, nsEq_nil, e0]
    generalize (s == []) = A
    generalize ((m.length : Int) == 0) = B
    generalize (r == 0) = C
    generalize ((ns.length : Int) == 0) = D
    generalize Fx.fIs o v = F
    generalize decide (0 ≤ v) = G
    generalize decide (ks.length = 0) = K
    clear e0 e1 e2
    cases A <;> cases B <;> cases C <;> cases D <;> cases b1 <;> cases b2 <;> cases b3 <;> cases b4 <;> simp <;> (cases F <;> cases G <;> cases K <;> cases o <;> rfl)
  · by_cases h2 : k = 2
    · subst h2
      rw [show rIs 2 ks.length o v s m r (rOnl 2 s b1 b2 b3 b4 ns (nEq o v false 0) (((m.length : Int) == 0) && (r == 0)) (!b1 && !b2) (!b3 && !b4) ((ns.length : Int) == 0)) = ((nEq o v false 0 && s == [] && (!b1 && !b2) && (!b3 && !b4) && ((ns.length : Int) == 0)) && decide ((ks.length : Int) = 0) && (m.all fMat && decide (m.length ≤ 8) && fRange r)) from rfl]
      rw [show ownE ⟨2, p, o, v, s, m, r, b1, b2, b3, b4, ns, ks⟩ = ⟨2, 0, false, 0, [], m, r, false, false, false, false, [], []⟩ from rfl]
      rw [show fK 2 ks.length o v s m r b1 b2 b3 b4 ns = (decide (ks.length = 0) && decide (m.length ≤ 8) && m.all fMat && fRange r) from rfl]
      dsimp only
      rw [msEq_refl9, nsEq_nil, e0]
      generalize nEq o v false 0 = V
      generalize (s == []) = A
      generalize ((ns.length : Int) == 0) = D
      generalize m.all fMat = F
      generalize fRange r = G
      generalize decide (m.length ≤ 8) = E
      generalize decide (ks.length = 0) = K
      clear e0 e1 e2
      cases V <;> cases A <;> cases D <;> cases b1 <;> cases b2 <;> cases b3 <;> cases b4 <;> simp <;> (cases F <;> cases G <;> cases K <;> cases E <;> rfl)
    · by_cases h3 : k = 3
      · subst h3
        rw [show rIs 3 ks.length o v s m r (rOnl 3 s b1 b2 b3 b4 ns (nEq o v false 0) (((m.length : Int) == 0) && (r == 0)) (!b1 && !b2) (!b3 && !b4) ((ns.length : Int) == 0)) = ((nEq o v false 0 && (((m.length : Int) == 0) && (r == 0)) && (!b1 && !b2) && (!b3 && !b4) && ((ns.length : Int) == 0)) && decide ((ks.length : Int) = 1) && (fName s && !isAggB s && !isModB s)) from rfl]
        rw [show ownE ⟨3, p, o, v, s, m, r, b1, b2, b3, b4, ns, ks⟩ = ⟨3, 0, false, 0, s, [], 0, false, false, false, false, [], []⟩ from rfl]
        rw [show fK 3 ks.length o v s m r b1 b2 b3 b4 ns = (decide (ks.length = 1) && fFun s) from rfl, show fFun s = (fName s && !isAggB s && !isModB s) from rfl]
        dsimp only
        rw [msEq_nil, nsEq_nil, e1]
        generalize nEq o v false 0 = V
        generalize (fName s && !isAggB s && !isModB s) = A
        generalize ((m.length : Int) == 0) = B
        generalize (r == 0) = C
        generalize ((ns.length : Int) == 0) = D
        generalize decide (ks.length = 1) = K
        clear e0 e1 e2
        cases V <;> cases B <;> cases C <;> cases D <;> cases b1 <;> cases b2 <;> cases b3 <;> cases b4 <;> simp <;> (cases A <;> cases K <;> rfl)
      · by_cases h4 : k = 4
        · subst h4
          rw [show rIs 4 ks.length o v s m r (rOnl 4 s b1 b2 b3 b4 ns (nEq o v false 0) (((m.length : Int) == 0) && (r == 0)) (!b1 && !b2) (!b3 && !b4) ((ns.length : Int) == 0)) = ((nEq o v false 0 && (((m.length : Int) == 0) && (r == 0)) && (!b3 && !b4) && !(b1 && b2) && rNms ns (b1 || b2)) && decide ((ks.length : Int) = 1) && isAggB s) from rfl]
          rw [show ownE ⟨4, p, o, v, s, m, r, b1, b2, b3, b4, ns, ks⟩ = ⟨4, 0, false, 0, s, [], 0, b1, b2, false, false, ns, []⟩ from rfl]
          rw [show fK 4 ks.length o v s m r b1 b2 b3 b4 ns = (decide (ks.length = 1) && isAggB s && fGrp b1 b2 ns) from rfl, fGrp_r]
          dsimp only
          rw [msEq_nil, e1]
          generalize nEq o v false 0 = V
          generalize isAggB s = A
          generalize ((m.length : Int) == 0) = B
          generalize (r == 0) = C
          generalize rNms ns (b1 || b2) = D
          generalize (!(b1 && b2)) = E
          generalize decide (ks.length = 1) = K
          clear e0 e1 e2
          cases V <;> cases B <;> cases C <;> cases b3 <;> cases b4 <;> simp <;> (cases A <;> cases D <;> cases E <;> cases K <;> rfl)
        · by_cases h5 : k = 5
          · subst h5
            rw [show rIs 5 ks.length o v s m r (rOnl 5 s b1 b2 b3 b4 ns (nEq o v false 0) (((m.length : Int) == 0) && (r == 0)) (!b1 && !b2) (!b3 && !b4) ((ns.length : Int) == 0)) = ((nEq o v false 0 && (((m.length : Int) == 0) && (r == 0)) && (!b1 && !b2) && !(b3 && b4) && rNms ns (b3 || b4)) && decide ((ks.length : Int) = 2) && decide (1 ≤ lv s)) from rfl]
            rw [show ownE ⟨5, p, o, v, s, m, r, b1, b2, b3, b4, ns, ks⟩ = ⟨5, 0, false, 0, s, [], 0, false, false, b3, b4, ns, []⟩ from rfl]
            rw [show fK 5 ks.length o v s m r b1 b2 b3 b4 ns = (decide (ks.length = 2) && (lv s != 0) && fGrp b3 b4 ns) from rfl, fGrp_r, lv_ne]
            dsimp only
            rw [msEq_nil, e2]
            generalize nEq o v false 0 = V
            generalize decide (1 ≤ lv s) = A
            generalize ((m.length : Int) == 0) = B
            generalize (r == 0) = C
            generalize rNms ns (b3 || b4) = D
            generalize (!(b3 && b4)) = E
            generalize decide (ks.length = 2) = K
            clear e0 e1 e2
            cases V <;> cases B <;> cases C <;> cases b1 <;> cases b2 <;> simp <;> (cases A <;> cases D <;> cases E <;> cases K <;> rfl)
          · by_cases h6 : k = 6
            · subst h6
              rw [show rIs 6 ks.length o v s m r (rOnl 6 s b1 b2 b3 b4 ns (nEq o v false 0) (((m.length : Int) == 0) && (r == 0)) (!b1 && !b2) (!b3 && !b4) ((ns.length : Int) == 0)) = ((nEq o v false 0 && s == [] && (((m.length : Int) == 0) && (r == 0)) && (!b1 && !b2) && (!b3 && !b4) && ((ns.length : Int) == 0)) && decide ((ks.length : Int) = 1) && true) from rfl]
              rw [show ownE ⟨6, p, o, v, s, m, r, b1, b2, b3, b4, ns, ks⟩ = ⟨6, 0, false, 0, [], [], 0, false, false, false, false, [], []⟩ from rfl]
              rw [show fK 6 ks.length o v s m r b1 b2 b3 b4 ns = decide (ks.length = 1) from rfl]
              dsimp only
              rw [msEq_nil, nsEq_nil, e1]
              generalize nEq o v false 0 = V
              generalize (s == []) = A
              generalize ((m.length : Int) == 0) = B
              generalize (r == 0) = C
              generalize ((ns.length : Int) == 0) = D
              generalize decide (ks.length = 1) = K
              clear e0 e1 e2
              cases V <;> cases A <;> cases B <;> cases C <;> cases D <;> cases b1 <;> cases b2 <;> cases b3 <;> cases b4 <;> simp
            · have hf : (decide (1 ≤ k) && decide (k ≤ 6)) = false := by
                rw [Bool.and_eq_false_iff]
                by_cases g : 1 ≤ k
                · exact Or.inr (decide_eq_false (by omega))
                · exact Or.inl (decide_eq_false g)
              have hk : fK k ks.length o v s m r b1 b2 b3 b4 ns = false := by
                unfold fK
                rw [if_neg h1, if_neg h2, if_neg h3, if_neg h4, if_neg h5, if_neg h6]
              rw [hk, Bool.and_false]
              unfold rIs
              rw [hf]
              simp
end Go.Proofs.YteankdaegdhfiaaGreatDoor
/- The reference counts. -/
namespace Go.Proofs.YteankdaegdhfiaaGreatDoor
open Go.RowKit

def RCountOK (P : Nat → Prop) (e : Ex) : Prop := Sm e → ∀ (w : World) (cs : Array Value) (most : Int), TrP P w e cs → 0 ≤ most → most ≤ 1000000 → Calls Tryz.prog 29 #[.agg cs, .int .i64 most] w fun x w' => ∃ r, x = .returned (.int .i64 r) ∧ Cnt e most r ∧ Below w.heap.size w w'
set_option maxHeartbeats 4000000 in
theorem rcount_ok {P : Nat → Prop} (e : Ex) : RCountOK P e := by
  refine Ex.ind (RCountOK P) ?_ e
  intro e ih hs w cs most h hm0 hm1
  obtain ⟨_, _, _, _, _, hn6, hks⟩ := (Sm_eq e).1 hs
  have HM : Hid (∀ x, x ∈ e.ks → Sm x) := hks
  clear hs hks
  obtain ⟨vm, vn, ao, cap, rfl, sm, sn, hcap, hkid⟩ := h.parts
  obtain ⟨am, cm, rfl, _⟩ := sm
  obtain ⟨an, cn, rfl, _⟩ := sn
  have HK : Hid _ := hkid
  have HI : Hid _ := ih
  have HS : Hid (sz e = 1 + szL e.ks) := sz_eq e
  have HL : Hid (∀ k, szL (e.ks.take k) ≤ szL e.ks) := szL_take _
  have HT : Hid (szL (e.ks.take e.ks.length) = szL e.ks) := by show _ = _; rw [List.take_length]
  clear hkid ih h
  generalize hn : e.ks.length = n at *
  have HN : Hid (e.ks.length = n) := hn
  clear hn
  have q0 := heap_new w (.cells (exA e.k e.p e.o e.v e.s (.slice am e.m.length cm) e.r e.b1 e.b2 e.b3 e.b4 (.slice an e.ns.length cn) (.slice ao n cap)) 29)
  have B0 := bal (Below.refl w.heap.size w) (.cells (exA e.k e.p e.o e.v e.s (.slice am e.m.length cm) e.r e.b1 e.b2 e.b3 e.b4 (.slice an e.ns.length cn) (.slice ao n cap)) 29)
  have z0 := size_le w (.cells (exA e.k e.p e.o e.v e.s (.slice am e.m.length cm) e.r e.b1 e.b2 e.b3 e.b4 (.slice an e.ns.length cn) (.slice ao n cap)) 29)
  go_enter Tryz.func29, Tryz.ntmps29
  go_upto_region 3 with fail
  generalize w.alloc (.cells (exA e.k e.p e.o e.v e.s (.slice am e.m.length cm) e.r e.b1 e.b2 e.b3 e.b4 (.slice an e.ns.length cn) (.slice ao n cap)) 29) = w1 at *
  go_loopw [5, 6] (fun a i wr => ∃ (k : Nat) (r : Int), k ≤ n ∧ a = .int .i64 r ∧ i = .int .i64 k ∧ Below w1.heap.size w1 wr ∧ 1 ≤ r ∧ (r ≤ 1 ∨ r ≤ most + 1) ∧ (r ≤ most → Hid (r = 1 + szL (e.ks.take k))) ∧ (most < r → Hid (most < 1 + szL (e.ks.take k)))) (fun _ i _ => n - (intOf i).toNat)
  case atStart => exact ⟨0, 1, by omega, rfl, rfl, Below.refl _ _, by omega, Or.inl (by omega), fun _ => by show (1 : Int) = _; simp [szL], fun hq => by show most < _; simp [szL]; omega⟩
  case round =>
    obtain ⟨k, r, hk, rfl, rfl, B, r1, r2, HA, HB⟩ := hrel
    have q1 := below_heap B q0
    have c0 := (cell_at q1 12).trans rfl
    by_cases hlt : k < n
    · have hlt' : (k : Int) < n := by omega
      by_cases hrm : r ≤ most
      · obtain ⟨x, hx⟩ : ∃ x, e.ks[k]? = some x := ⟨_, List.getElem?_eq_getElem (by have := HN.out; omega)⟩
        obtain ⟨b, off, ci, ea, kd⟩ := HK.out k x hx
        have kd1 := kd.later (B0.trans (B.mono B0.size))
        subst ea
        have row := kd1.t.row
        have hc := HI.out x (List.mem_of_getElem? hx) (HM.out x (List.mem_of_getElem? hx)) wr ci (most - r) kd1.t (by omega) (by omega)
        have HX : Hid (szL (e.ks.take (k + 1)) = szL (e.ks.take k) + sz x) := szL_step _ _ _ hx
        have HR : Hid (r = 1 + szL (e.ks.take k)) := HA hrm
        clear HA HB hx kd HK HI
        go_wp2_with (refine wp_getm rfl _ rfl b (off + k * 13) ci rfl kd1.r row.1 ?_)
        refine hc.mono ?_
        rintro x' w2 ⟨r', rfl, C, b2⟩
        obtain ⟨d1, d2, d3, d4⟩ := C
        have B2 := B.trans (b2.mono B.size)
        go_wp2_with fail
        go_roundw
        case rel =>
          refine ⟨k + 1, r + r', by omega, by go_num, by go_num, B2, by omega, by omega, fun hq => ?_, fun hq => ?_⟩
          · have e1 := d3 (by omega)
            have e2 := HX.out
            have e3 := HR.out
            show _ = _
            omega
          · have e1 := d4 (by omega)
            have e2 := HX.out
            have e3 := HR.out
            show _ < _
            omega
        case measure => simp [intOf]; omega
      · have HV : Hid (Cnt e most r) := ⟨r1, r2, fun hq => absurd hq hrm, fun _ => by have e1 := (HB (by omega)).out; have e2 := HL.out k; have e3 := HS.out; omega⟩
        clear HA HB HK HI
        go_wp2_with fail
        go_ret
        exact ⟨_, rfl, HV.out, B0.trans (B.mono B0.size)⟩
    · have hlt' : ¬ (k : Int) < n := by omega
      have ek : k = n := by omega
      have HV : Hid (Cnt e most r) := by
        have e2 := HT.out
        have e3 := HS.out
        subst ek
        exact ⟨r1, r2, fun hq => by have := (HA hq).out; omega, fun hq => by have := (HB hq).out; omega⟩
      clear HA HB HK HI
      go_wp2_with fail
      go_ret
      exact ⟨_, rfl, HV.out, B0.trans (B.mono B0.size)⟩
end Go.Proofs.YteankdaegdhfiaaGreatDoor
/- The reference: whether a tree is an expression. -/
namespace Go.Proofs.YteankdaegdhfiaaGreatDoor
open Go.RowKit

def EachOK (P : Nat → Prop) (e : Ex) : Prop := Sm e → Vr e → ∀ (w : World) (cs : Array Value), TrP P w e cs → Calls Tryz.prog 47 #[.agg cs] w fun x w' => x = .returned (.bool (sndE e)) ∧ Below w.heap.size w w'
theorem alls_step (l : List Ex) (j : Nat) (x : Ex) (hx : l[j]? = some x) : (l.take (j + 1)).all sndE = ((l.take j).all sndE && sndE x) := by
  rw [List.take_add_one, hx, List.all_append]
  simp
theorem alls_no (l : List Ex) (j : Nat) (x : Ex) (hx : l[j]? = some x) (h : sndE x = false) : l.all sndE = false := by
  rw [List.all_eq_false]
  exact ⟨x, List.mem_of_getElem? hx, by simp [h]⟩
set_option maxHeartbeats 8000000 in
theorem each_ok {P : Nat → Prop} (e : Ex) : EachOK P e := by
  refine Ex.ind (EachOK P) ?_ e
  intro e ih hs hv w cs h
  obtain ⟨s1, s2, s3, s4, s5, s6, s7⟩ := (Sm_eq e).1 hs
  obtain ⟨⟨v0, _⟩, v2⟩ := (Vr_eq e).1 hv
  obtain ⟨vm, vn, ao, cap, rfl, sm, sn, hcap, hkid⟩ := h.parts
  have SM : Hid _ := sm
  have SN : Hid _ := sn
  obtain ⟨am, cm, rfl, _⟩ := sm
  obtain ⟨an, cn, rfl, _⟩ := sn
  have HK : Hid _ := hkid
  have HI : Hid _ := ih
  have HM : Hid _ := s7
  have HV : Hid _ := v2
  obtain ⟨n, HN⟩ : ∃ n, Hid (e.ks.length = n) := ⟨_, rfl⟩
  have hIs := fun W (hW : Below w.heap.size w W) => is_row e.k e.p e.o e.v e.s am an ao e.m.length cm e.ns.length cn e.ks.length cap e.r e.b1 e.b2 e.b3 e.b4 e.m e.ns W (SlP.later SM.out hW) (SlP.later SN.out hW) s3 s2 s1 s5 s4 v0 (onE e) rfl
  rw [rIs_eq] at hIs
  have HE : Hid (sndE e = (alk e (ownE e) && kindE e && e.ks.all sndE)) := sndE_eq e
  rw [HN.out] at s6 hIs ⊢
  generalize sndE e = RES at *
  have q := heap_new w (.cells (exA e.k e.p e.o e.v e.s (.slice am e.m.length cm) e.r e.b1 e.b2 e.b3 e.b4 (.slice an e.ns.length cn) (.slice ao n cap)) 29)
  have B1 := bal (Below.refl w.heap.size w) (.cells (exA e.k e.p e.o e.v e.s (.slice am e.m.length cm) e.r e.b1 e.b2 e.b3 e.b4 (.slice an e.ns.length cn) (.slice ao n cap)) 29)
  clear hkid ih s7 h hs s1 s2 s3 s4 s5 hv v0 v2 hcap SM SN
  generalize (alk e (ownE e) && kindE e) = O at *
  go_enter Tryz.func47, Tryz.ntmps47
  go_upto_region 1 with fail
  generalize w.alloc (.cells (exA e.k e.p e.o e.v e.s (.slice am e.m.length cm) e.r e.b1 e.b2 e.b3 e.b4 (.slice an e.ns.length cn) (.slice ao n cap)) 29) = w1 at *
  go_wp2_with (refine wp_get rfl 29 _ rfl w.heap.size _ 29 rfl q _ Tryz.underlying29 rfl 13 inf29 rfl ?_)
  refine (hIs _ B1).mono ?_
  rintro x w2 ⟨rfl, b2⟩
  have B2 := B1.trans (b2.mono B1.size)
  have q2 := below_heap b2 q
  clear hIs b2 q
  cases O with
  | false =>
    go_wp2_with fail
    go_ret
    exact ⟨by rw [HE.out]; rfl, B2⟩
  | true =>
    have HE2 : Hid (RES = e.ks.all sndE) := by show _ = _; rw [HE.out]; rfl
    clear HE
    go_wp2_with fail
    go_loopw [3] (fun i wr => ∃ (j : Nat), j ≤ n ∧ i = .int .i64 j ∧ Below w2.heap.size w2 wr ∧ Hid ((e.ks.take j).all sndE = true)) (fun i _ => n - (intOf i).toNat)
    case atStart => exact ⟨0, by omega, rfl, Below.refl _ _, rfl⟩
    case round =>
      obtain ⟨j, hj, rfl, C, HA⟩ := hrel
      have BC := B2.trans (C.mono B2.size)
      have x12 := (cell_at (below_heap C q2) 12).trans rfl
      by_cases hlt : j < n
      · have hlt' : (j : Int) < n := by omega
        obtain ⟨x, hx⟩ : ∃ x, e.ks[j]? = some x := ⟨_, List.getElem?_eq_getElem (by have := HN.out; omega)⟩
        obtain ⟨b, off, ci, ea, kd⟩ := HK.out j x hx
        have kd1 := kd.later BC
        have row := kd1.t.row
        subst ea
        have his := fun W hW => HI.out x (List.mem_of_getElem? hx) (HM.out x (List.mem_of_getElem? hx)) (HV.out x (List.mem_of_getElem? hx)) W ci hW
        have HS : Hid ((e.ks.take (j + 1)).all sndE = ((e.ks.take j).all sndE && sndE x)) := alls_step _ _ _ hx
        have HO : Hid (sndE x = false → e.ks.all sndE = false) := alls_no _ _ _ hx
        have hbw := kd1.lt
        clear hx kd
        cases hq : sndE x with
        | true =>
          have HR : Hid ((e.ks.take (j + 1)).all sndE = true) := by show _ = _; rw [HS.out, HA.out, hq]; rfl
          simp only [hq] at his
          clear HS HO HA hq
          go_wp2_with (refine wp_getm rfl _ rfl b (off + j * 13) ci rfl kd1.r row.1 ?_)
          refine (his _ kd1.t).mono ?_
          rintro x' w6 ⟨rfl, b6⟩
          go_wp2_with fail
          go_roundw
          case rel => exact ⟨j + 1, by omega, by go_num, C.trans (b6.mono C.size), HR⟩
          case measure => simp [intOf]; omega
        | false =>
          have HR : Hid (RES = false) := by show _ = _; rw [HE2.out, HO.out hq]
          simp only [hq] at his
          clear HS HO HA hq HE2
          go_wp2_with (refine wp_getm rfl _ rfl b (off + j * 13) ci rfl kd1.r row.1 ?_)
          refine (his _ kd1.t).mono ?_
          rintro x' w6 ⟨rfl, b6⟩
          go_wp2_with fail
          go_ret
          exact ⟨by rw [HR.out]; rfl, BC.trans (b6.mono BC.size)⟩
      · have hlt' : ¬ (j : Int) < n := by omega
        have HR : Hid (RES = true) := by
          have h1 := HN.out
          have h2 := HA.out
          rw [List.take_of_length_le (by omega)] at h2
          show _ = _
          rw [HE2.out, h2]
        clear HE2 HI HK HM HV HA
        go_wp2_with fail
        go_ret
        exact ⟨by rw [HR.out]; rfl, BC⟩
set_option maxHeartbeats 4000000 in
theorem ris_any {P : Nat → Prop} {w : World} {e : Ex} {cs : Array Value} (h : TrP P w e cs) (hs : Sm e) (hv : Vr e) : Calls Tryz.prog 20 #[.agg cs] w fun x w' => x = .returned (.bool (isE e)) ∧ Below w.heap.size w w' := by
  obtain ⟨vm, vn, ao, cap, ec, sm, sn, _, _⟩ := h.parts
  obtain ⟨am, cm, rfl, _⟩ := sm
  obtain ⟨an, cn, rfl, _⟩ := sn
  obtain ⟨n, hn⟩ : ∃ n, e.ks.length = n := ⟨_, rfl⟩
  rw [hn] at ec
  clear hn
  subst ec
  have hC := fun W (hW : Below w.heap.size w W) => rcount_ok e hs W _ 700 (TrP.later h hW) (by omega) (by omega)
  have hE := fun W (hW : Below w.heap.size w W) => each_ok e hs hv W _ (TrP.later h hW)
  have HD : Hid (isE e = (decide (sz e ≤ 700) && sndE e)) := rfl
  generalize isE e = RES at *
  have q := heap_new w (.cells (exA e.k e.p e.o e.v e.s (.slice am e.m.length cm) e.r e.b1 e.b2 e.b3 e.b4 (.slice an e.ns.length cn) (.slice ao n cap)) 29)
  have B := bal (Below.refl w.heap.size w) (.cells (exA e.k e.p e.o e.v e.s (.slice am e.m.length cm) e.r e.b1 e.b2 e.b3 e.b4 (.slice an e.ns.length cn) (.slice ao n cap)) 29)
  clear h hs hv
  go_enter Tryz.func20, Tryz.ntmps20
  go_upto_region 1 with fail
  generalize w.alloc (.cells (exA e.k e.p e.o e.v e.s (.slice am e.m.length cm) e.r e.b1 e.b2 e.b3 e.b4 (.slice an e.ns.length cn) (.slice ao n cap)) 29) = w1 at *
  go_wp2_with (refine wp_get rfl 29 _ rfl w.heap.size _ 29 rfl q _ Tryz.underlying29 rfl 13 inf29 rfl ?_)
  refine (hC _ B).mono ?_
  rintro x w2 ⟨r, rfl, HC, b2⟩
  have B2 := B.trans (b2.mono B.size)
  have q2 := below_heap b2 q
  by_cases hr : r ≤ 700
  · have HR : Hid (RES = sndE e) := by
      have := HC.2.2.1 hr
      show _ = _
      rw [HD.out, decide_eq_true (by omega)]
      rfl
    clear HC HD
    generalize sndE e = Z at *
    have x0 := (cell_at q2 0).trans rfl
    have x1 := (cell_at q2 1).trans rfl
    have x2 := (cell_at q2 2).trans rfl
    have x3 := (cell_at q2 3).trans rfl
    have x4 := (cell_at q2 4).trans rfl
    have x5 := (cell_at q2 5).trans rfl
    have x6 := (cell_at q2 6).trans rfl
    have x7 := (cell_at q2 7).trans rfl
    have x8 := (cell_at q2 8).trans rfl
    have x9 := (cell_at q2 9).trans rfl
    have x10 := (cell_at q2 10).trans rfl
    have x11 := (cell_at q2 11).trans rfl
    have x12 := (cell_at q2 12).trans rfl
    go_wp2_with fail
    refine (hE _ B2).mono ?_
    rintro x w3 ⟨rfl, b3⟩
    go_wp2_with fail
    go_ret
    exact ⟨by rw [HR.out]; rfl, B2.trans (b3.mono B2.size)⟩
  · have HR : Hid (RES = false) := by
      have := HC.2.2.2 (by omega)
      show _ = _
      rw [HD.out, decide_eq_false (by omega)]
      rfl
    clear HC HD
    go_wp2_with fail
    go_ret
    exact ⟨by rw [HR.out]; rfl, B2⟩
end Go.Proofs.YteankdaegdhfiaaGreatDoor
/- The reference's Of and Rule. -/
namespace Go.Proofs.YteankdaegdhfiaaGreatDoor
open Go.RowKit

set_option maxHeartbeats 8000000 in
theorem rof_any {P : Nat → Prop} {w : World} {e : Ex} {cs : Array Value} (h : TrP P w e cs) (hs : Sm e) (hv : Vr e) : Calls Tryz.prog 31 #[.agg cs] w fun x w' => x = .returned (tyV (ofE e)) ∧ Below w.heap.size w w' := by
  have row := h.row
  have q := heap_new w (.cells cs 29)
  have B := bal (Below.refl w.heap.size w) (.cells cs 29)
  have HI := fun W (hW : Below w.heap.size w W) => ris_any (TrP.later h hW) hs hv
  cases hq : isE e with
  | false =>
    rw [show ofE e = (0, 0, 71) by unfold ofE; rw [if_neg (by simp [hq])]]
    simp only [hq] at HI
    clear hq h
    go_enter Tryz.func31, Tryz.ntmps31
    go_upto_region 1 with fail
    generalize w.alloc (.cells cs 29) = w1 at *
    go_wp2_with (refine wp_get rfl 29 _ rfl w.heap.size cs 29 rfl q _ Tryz.underlying29 rfl 13 inf29 row.1 ?_)
    refine (HI _ B).mono ?_
    rintro x w2 ⟨rfl, b2⟩
    go_wp2_with fail
    go_ret3
    exact ⟨rfl, B.trans (b2.mono B.size)⟩
  | true =>
    have HT := fun W (hW : Below w.heap.size w W) => rty_ok e hs (isE_snd hq) W cs (TrP.later h hW)
    rw [show ofE e = tyE e by unfold ofE; rw [if_pos hq]]
    generalize tyE e = o at *
    obtain ⟨o1, o2, o3⟩ := o
    simp only [hq] at HI
    clear hq h
    go_enter Tryz.func31, Tryz.ntmps31
    go_upto_region 1 with fail
    generalize w.alloc (.cells cs 29) = w1 at *
    go_wp2_with (refine wp_get rfl 29 _ rfl w.heap.size cs 29 rfl q _ Tryz.underlying29 rfl 13 inf29 row.1 ?_)
    refine (HI _ B).mono ?_
    rintro x w2 ⟨rfl, b2⟩
    have B2 := B.trans (b2.mono B.size)
    have q2 := below_heap b2 q
    go_wp2_with (refine wp_get rfl 29 _ rfl w.heap.size cs 29 rfl q2 _ Tryz.underlying29 rfl 13 inf29 row.1 ?_)
    refine (HT _ B2).mono ?_
    rintro x w3 ⟨rfl, b3⟩
    go_wp2_with fail
    go_ret3
    exact ⟨rfl, B2.trans (b3.mono B2.size)⟩
set_option maxHeartbeats 4000000 in
theorem rrule_any {P : Nat → Prop} {w : World} {e : Ex} {cs : Array Value} (h : TrP P w e cs) (hs : Sm e) (hv : Vr e) : Calls Tryz.prog 33 #[.agg cs] w fun x w' => x = .returned (.tuple #[iv (ruE (ofE e) e).1, iv (ruE (ofE e) e).2]) ∧ Below w.heap.size w w' := by
  have row := h.row
  obtain ⟨vm, vn, ao, cap, ec, _, _, _, _⟩ := h.parts
  have q := heap_new w (.cells cs 29)
  have B := bal (Below.refl w.heap.size w) (.cells cs 29)
  have HO := fun W (hW : Below w.heap.size w W) => rof_any (TrP.later h hW) hs hv
  have hx1 : cs[1]? = some (iv e.p) := by rw [ec]; rfl
  clear ec h
  generalize ofE e = o at *
  obtain ⟨o1, o2, o3⟩ := o
  unfold ruE
  dsimp only at HO ⊢
  by_cases h0 : o3 = 0
  · subst h0
    rw [if_neg (by simp)]
    by_cases h1 : o1 = 3
    · subst h1
      rw [if_pos rfl]
      go_enter Tryz.func33, Tryz.ntmps33
      go_upto_region 1 with fail
      generalize w.alloc (.cells cs 29) = w1 at *
      go_wp2_with (refine wp_get rfl 29 _ rfl w.heap.size cs 29 rfl q _ Tryz.underlying29 rfl 13 inf29 row.1 ?_)
      refine (HO _ B).mono ?_
      rintro x w2 ⟨rfl, b2⟩
      have x1 := (cell_at (below_heap b2 q) 1).trans hx1
      go_wp2_with fail
      go_ret2
      exact ⟨rfl, B.trans (b2.mono B.size)⟩
    · rw [if_neg h1]
      have t1 : (o1 == 3) = false := beq_eq_false_iff_ne.2 h1
      go_enter Tryz.func33, Tryz.ntmps33
      go_upto_region 1 with fail
      generalize w.alloc (.cells cs 29) = w1 at *
      go_wp2_with (refine wp_get rfl 29 _ rfl w.heap.size cs 29 rfl q _ Tryz.underlying29 rfl 13 inf29 row.1 ?_)
      refine (HO _ B).mono ?_
      rintro x w2 ⟨rfl, b2⟩
      go_wp2_with fail
      go_ret2
      exact ⟨rfl, B.trans (b2.mono B.size)⟩
  · rw [if_pos h0]
    have t0 : (o3 != 0) = true := by rw [bne_iff_ne]; exact h0
    have t1 : (o3 == 0) = false := beq_eq_false_iff_ne.2 h0
    go_enter Tryz.func33, Tryz.ntmps33
    go_upto_region 1 with fail
    generalize w.alloc (.cells cs 29) = w1 at *
    go_wp2_with (refine wp_get rfl 29 _ rfl w.heap.size cs 29 rfl q _ Tryz.underlying29 rfl 13 inf29 row.1 ?_)
    refine (HO _ B).mono ?_
    rintro x w2 ⟨rfl, b2⟩
    go_wp2_with fail
    go_ret2
    exact ⟨rfl, B.trans (b2.mono B.size)⟩
end Go.Proofs.YteankdaegdhfiaaGreatDoor
/- Of every expression: the law TypesTell. -/
namespace Go.Proofs.YteankdaegdhfiaaGreatDoor
open Go.RowKit

set_option maxHeartbeats 8000000 in
set_option maxRecDepth 20000 in
theorem tell_any (e : Ex) (cs : Array Value) (nm : Str) (w : World) (hT : TrP (fun _ : Nat => True) w e cs) (hS : Sm e) (hV : Vr e) (hs : nm.length ≤ 9223372036854775807) (he : Ev w ∧ Et w) : Calls Tryz.prog 6 #[.agg cs, tx nm] w fun x w' => x = .returned (.bool true) ∧ Below w.heap.size w w' := by
  have HTr : Hid _ := hT
  have row := hT.row
  have q := heap_new w (.cells cs 29)
  have B1 := bal (Below.refl w.heap.size w) (.cells cs 29)
  have HE : Hid (Ev w) := he.1
  have HT : Hid (Et w) := he.2
  have hkn := fun W (hW : Below w.heap.size w W) => tknown_any W (HE.out.later hW) (HT.out.later hW)
  have hct := fun W (hW : Below w.heap.size w W) => rcount_ok e hS W cs 300 (HTr.out.later hW) (by omega) (by omega)
  have hof := fun W (hW : Below w.heap.size w W) => of_any (HTr.out.later hW) hS (HT.out.later hW)
  have hro := fun W (hW : Below w.heap.size w W) => rof_any (HTr.out.later hW) hS hV
  have hru := fun W (hW : Below w.heap.size w W) => rule_any (HTr.out.later hW) hS (HT.out.later hW)
  have hrr := fun W (hW : Below w.heap.size w W) => rrule_any (HTr.out.later hW) hS hV
  have hhz := fun W (hW : Below w.heap.size w W) => hz_ok e hS W cs (HTr.out.later hW)
  have hrh := fun W (hW : Below w.heap.size w W) => rhz_ok e hS W cs (HTr.out.later hW)
  have his := fun W (hW : Below w.heap.size w W) => ris_any (HTr.out.later hW) hS hV
  have hk1 := fun W => known9_any nm W
  have hk2 := fun W => rknown_any nm W
  clear hT he hS hV
  generalize ruE (ofE e) e = RU at *
  generalize ofE e = O at *
  generalize hzE e = Z at *
  generalize isE e = I0 at *
  generalize knw nm = KN at *
  obtain ⟨o1, o2, o3⟩ := O
  obtain ⟨r1, r2⟩ := RU
  go_enter Tryz.func6, Tryz.ntmps6
  go_upto_region 1 with fail
  generalize w.alloc (.cells cs 29) = w1 at *
  go_wp2_with fail
  refine (hkn _ B1).mono ?_
  rintro x w2 ⟨rfl, b2⟩
  have B2 := B1.trans (b2.mono B1.size)
  have q2 := below_heap b2 q
  clear hkn b2 q
  go_upto_region 3 with fail
  go_wp2_with (refine wp_get rfl 29 _ rfl w.heap.size cs 29 rfl q2 _ Tryz.underlying29 rfl 13 inf29 row.1 ?_)
  refine (hct _ B2).mono ?_
  rintro x w3 ⟨r, rfl, HC, b3⟩
  have B3 := B2.trans (b3.mono B2.size)
  have q3 := below_heap b3 q2
  clear hct b3 q2 HC
  by_cases hr : r ≤ 300
  · have hr' : ¬ (300 : Int) < r := by omega
    by_cases hl : nm.length ≤ 60
    · have hl' : ¬ (60 : Int) < nm.length := by omega
      go_upto_region 5 with fail
      go_wp2_with (refine wp_get rfl 29 _ rfl w.heap.size cs 29 rfl q3 _ Tryz.underlying29 rfl 13 inf29 row.1 ?_)
      refine (hof _ B3).mono ?_
      rintro x w4 ⟨rfl, b4⟩
      have q4 := below_heap b4 q3
      have B4 := B3.trans (b4.mono B3.size)
      clear hof b4 q3
      go_wp2_with (refine wp_get rfl 29 _ rfl w.heap.size cs 29 rfl q4 _ Tryz.underlying29 rfl 13 inf29 row.1 ?_)
      refine (hro _ B4).mono ?_
      rintro x w5 ⟨rfl, b5⟩
      have q5 := below_heap b5 q4
      have B5 := B4.trans (b5.mono B4.size)
      clear hro b5 q4
      go_wp2_with (refine wp_get rfl 29 _ rfl w.heap.size cs 29 rfl q5 _ Tryz.underlying29 rfl 13 inf29 row.1 ?_)
      refine (hru _ B5).mono ?_
      rintro x w6 ⟨rfl, b6⟩
      have q6 := below_heap b6 q5
      have B6 := B5.trans (b6.mono B5.size)
      clear hru b6 q5
      go_wp2_with (refine wp_get rfl 29 _ rfl w.heap.size cs 29 rfl q6 _ Tryz.underlying29 rfl 13 inf29 row.1 ?_)
      refine (hrr _ B6).mono ?_
      rintro x w7 ⟨rfl, b7⟩
      have q7 := below_heap b7 q6
      have B7 := B6.trans (b7.mono B6.size)
      clear hrr b7 q6
      go_wp2_with fail
      refine (hk1 _).mono ?_
      rintro x w8 ⟨rfl, rfl⟩
      go_wp2_with fail
      refine (hk2 _).mono ?_
      rintro x w8 ⟨rfl, b8⟩
      have q8 := below_heap b8 q7
      have B8 := B7.trans (b8.mono B7.size)
      clear hk1 hk2 b8 q7
      have nk : (KN != KN) = false := by cases KN <;> rfl
      go_upto_region 11 with fail
      have C0 : Below w8.heap.size w8 w8.drew := (Below.refl _ _).drew
      refine wp_region_noPanic ?_
      refine wp_region_held_drew (S := fun W => Below w8.heap.size w8 W) (by kernel_rfl) ?_ (fun _ => ?_)
      · exact C0
      generalize w8.drew = wd at *
      refine take_at 0 (some 77) (.agg cs) rfl rfl (by kernel_rfl) (by kernel_rfl) (by kernel_rfl) (fun _ _ _ h => h) (by rfl) (fun W hSw => by exact exec_get 29 _ rfl w.heap.size cs 29 rfl W (below_heap hSw q8) _ Tryz.underlying29 rfl 13 inf29 row.1) C0 ?_
      simp only [Act.put, List.setIfInBounds_toArray, List.set_cons_zero, List.set_cons_succ]
      cases I0 with
      | false =>
        refine wpAnyH_ready (rs := [1]) (by kernel_rfl) (by simp) ?_
        refine AllReadyH.cons rfl (fun K hK => ?_) AllReadyH.nil
        go_simp
        refine (his _ (B8.trans (C0.mono B8.size))).mono ?_
        rintro x y1 ⟨rfl, hy1⟩
        have Cy1 := C0.trans (hy1.mono C0.size)
        refine hK.out _ _ ?_ (fun _ => ?_)
        · exact Cy1
        clear hK K
        refine take_at 2 (some 79) (.bool true) rfl rfl (by kernel_rfl) (by kernel_rfl) (by kernel_rfl) (fun _ _ _ h => h) (by rfl) (fun W hSw => by go_simp) Cy1 ?_
        simp only [Act.put, List.setIfInBounds_toArray, List.set_cons_zero, List.set_cons_succ]
        refine take_at 3 (some 80) (.bool true) rfl rfl (by kernel_rfl) (by kernel_rfl) (by kernel_rfl) (fun _ _ _ h => h) (by rfl) (fun W hSw => by go_simp) Cy1 ?_
        simp only [Act.put, List.setIfInBounds_toArray, List.set_cons_zero, List.set_cons_succ]
        refine skip_at 4 (some 81) rfl rfl (by kernel_rfl) (by kernel_rfl) (by kernel_rfl) (fun _ _ _ h => h) (by rfl) Cy1 ?_
        simp only [Act.put, List.setIfInBounds_toArray, List.set_cons_zero, List.set_cons_succ]
        refine skip_at 5 (some 82) rfl rfl (by kernel_rfl) (by kernel_rfl) (by kernel_rfl) (fun _ _ _ h => h) (by rfl) Cy1 ?_
        simp only [Act.put, List.setIfInBounds_toArray, List.set_cons_zero, List.set_cons_succ]
        refine skip_at 6 (some 83) rfl rfl (by kernel_rfl) (by kernel_rfl) (by kernel_rfl) (fun _ _ _ h => h) (by rfl) Cy1 ?_
        simp only [Act.put, List.setIfInBounds_toArray, List.set_cons_zero, List.set_cons_succ]
        refine skip_at 7 (some 84) rfl rfl (by kernel_rfl) (by kernel_rfl) (by kernel_rfl) (fun _ _ _ h => h) (by rfl) Cy1 ?_
        simp only [Act.put, List.setIfInBounds_toArray, List.set_cons_zero, List.set_cons_succ]
        refine skip_at 8 (some 85) rfl rfl (by kernel_rfl) (by kernel_rfl) (by kernel_rfl) (fun _ _ _ h => h) (by rfl) Cy1 ?_
        simp only [Act.put, List.setIfInBounds_toArray, List.set_cons_zero, List.set_cons_succ]
        refine take_at 9 (some 86) (.bool true) rfl rfl (by kernel_rfl) (by kernel_rfl) (by kernel_rfl) (fun _ _ _ h => h) (by rfl) (fun W hSw => by go_simp) Cy1 ?_
        simp only [Act.put, List.setIfInBounds_toArray, List.set_cons_zero, List.set_cons_succ]
        refine take_at 10 (some 4) (.bool true) rfl rfl (by kernel_rfl) (by kernel_rfl) (by kernel_rfl) (fun _ _ _ h => h) (by rfl) (fun W hSw => by go_simp) Cy1 ?_
        simp only [Act.put, List.setIfInBounds_toArray, List.set_cons_zero, List.set_cons_succ]
        refine wpAnyH_done (by kernel_rfl) ?_ _
        refine NoPanic.normal ?_
        go_wp2_with fail
        go_ret
        exact ⟨rfl, B8.trans (Cy1.mono B8.size)⟩
      | true =>
        refine wpAnyH_ready (rs := [1]) (by kernel_rfl) (by simp) ?_
        refine AllReadyH.cons rfl (fun K hK => ?_) AllReadyH.nil
        go_simp
        refine (his _ (B8.trans (C0.mono B8.size))).mono ?_
        rintro x y1 ⟨rfl, hy1⟩
        have Cy1 := C0.trans (hy1.mono C0.size)
        refine hK.out _ _ ?_ (fun _ => ?_)
        · exact Cy1
        clear hK K
        refine take_at 2 (some 79) (.bool false) rfl rfl (by kernel_rfl) (by kernel_rfl) (by kernel_rfl) (fun _ _ _ h => h) (by rfl) (fun W hSw => by go_simp) Cy1 ?_
        simp only [Act.put, List.setIfInBounds_toArray, List.set_cons_zero, List.set_cons_succ]
        refine take_at 3 (some 80) (.bool false) rfl rfl (by kernel_rfl) (by kernel_rfl) (by kernel_rfl) (fun _ _ _ h => h) (by rfl) (fun W hSw => by go_simp) Cy1 ?_
        simp only [Act.put, List.setIfInBounds_toArray, List.set_cons_zero, List.set_cons_succ]
        refine take_at 4 (some 81) (.agg cs) rfl rfl (by kernel_rfl) (by kernel_rfl) (by kernel_rfl) (fun _ _ _ h => h) (by rfl) (fun W hSw => by exact exec_get 29 _ rfl w.heap.size cs 29 rfl W (below_heap hSw q8) _ Tryz.underlying29 rfl 13 inf29 row.1) Cy1 ?_
        simp only [Act.put, List.setIfInBounds_toArray, List.set_cons_zero, List.set_cons_succ]
        refine take_at 6 (some 83) (.agg cs) rfl rfl (by kernel_rfl) (by kernel_rfl) (by kernel_rfl) (fun _ _ _ h => h) (by rfl) (fun W hSw => by exact exec_get 29 _ rfl w.heap.size cs 29 rfl W (below_heap hSw q8) _ Tryz.underlying29 rfl 13 inf29 row.1) Cy1 ?_
        simp only [Act.put, List.setIfInBounds_toArray, List.set_cons_zero, List.set_cons_succ]
        refine wpAnyH_ready (rs := [5]) (by kernel_rfl) (by simp) ?_
        refine AllReadyH.cons rfl (fun K hK => ?_) AllReadyH.nil
        go_simp
        refine (hhz _ (B8.trans (Cy1.mono B8.size))).mono ?_
        rintro x y2 ⟨rfl, hy2⟩
        have Cy2 := Cy1.trans (hy2.mono Cy1.size)
        refine hK.out _ _ ?_ (fun _ => ?_)
        · exact Cy2
        clear hK K
        refine wpAnyH_ready (rs := [7]) (by kernel_rfl) (by simp) ?_
        refine AllReadyH.cons rfl (fun K hK => ?_) AllReadyH.nil
        go_simp
        refine (hrh _ (B8.trans (Cy2.mono B8.size))).mono ?_
        rintro x y3 ⟨rfl, hy3⟩
        have Cy3 := Cy2.trans (hy3.mono Cy2.size)
        refine hK.out _ _ ?_ (fun _ => ?_)
        · exact Cy3
        clear hK K
        refine take_at 8 (some 85) (.bool true) rfl rfl (by kernel_rfl) (by kernel_rfl) (by kernel_rfl) (fun _ _ _ h => h) (by rfl) (fun W hSw => by go_simp) Cy3 ?_
        simp only [Act.put, List.setIfInBounds_toArray, List.set_cons_zero, List.set_cons_succ]
        refine take_at 9 (some 86) (.bool true) rfl rfl (by kernel_rfl) (by kernel_rfl) (by kernel_rfl) (fun _ _ _ h => h) (by rfl) (fun W hSw => by go_simp) Cy3 ?_
        simp only [Act.put, List.setIfInBounds_toArray, List.set_cons_zero, List.set_cons_succ]
        refine take_at 10 (some 4) (.bool true) rfl rfl (by kernel_rfl) (by kernel_rfl) (by kernel_rfl) (fun _ _ _ h => h) (by rfl) (fun W hSw => by go_simp) Cy3 ?_
        simp only [Act.put, List.setIfInBounds_toArray, List.set_cons_zero, List.set_cons_succ]
        refine wpAnyH_done (by kernel_rfl) ?_ _
        refine NoPanic.normal ?_
        go_wp2_with fail
        go_ret
        exact ⟨rfl, B8.trans (Cy3.mono B8.size)⟩
    · have hl' : (60 : Int) < nm.length := by omega
      go_wp2_with fail
      go_ret
      exact ⟨rfl, B3⟩
  · have hr' : (300 : Int) < r := by omega
    go_wp2_with fail
    go_ret
    exact ⟨rfl, B3⟩
end Go.Proofs.YteankdaegdhfiaaGreatDoor
/- A tree that is handed in, out of its reading. -/
namespace Go.Proofs.YteankdaegdhfiaaGreatDoor
open Go.ChangeShapes Go.WideShapes Go.ChangeAt Go.RowKit Go.Deep

theorem c29 : Tryz.prog.cellsOf 29 = 13 := by kernel_rfl
theorem c87 : Tryz.prog.cellsOf 87 = 3 := by kernel_rfl
theorem cS : Tryz.prog.cellsOf 9 = 1 := by kernel_rfl
theorem cI : Tryz.prog.cellsOf 3 = 1 := by kernel_rfl
theorem cJ : Tryz.prog.cellsOf 2 = 1 := by kernel_rfl
theorem cB : Tryz.prog.cellsOf 4 = 1 := by kernel_rfl
theorem cN : Tryz.prog.cellsOf 24 = 2 := by kernel_rfl
theorem c25 : Tryz.prog.cellsOf 25 = 1 := by kernel_rfl
theorem c26 : Tryz.prog.cellsOf 26 = 1 := by kernel_rfl
theorem c27 : Tryz.prog.cellsOf 27 = 1 := by kernel_rfl
section
variable {H : Type} {enc : TypeId × Value → H} {W : World}
abbrev Rdg (enc : TypeId × Value → H) (W : World) (fuel : Nat) (t : TypeId) (cs : List Value) (x : DataW H × List MemPlace) : Prop := DataW.trod enc Tryz.prog W 0 (fun _ => true) true fuel t cs = some x
theorem l2 {α : Type} : ∀ {l : List α}, l.length = 2 → ∃ a b, l = [a, b]
  | [a, b], _ => ⟨a, b, rfl⟩
theorem l3 {α : Type} : ∀ {l : List α}, l.length = 3 → ∃ a b c, l = [a, b, c]
  | [a, b, c], _ => ⟨a, b, c, rfl⟩
theorem l6 {α : Type} : ∀ {l : List α}, l.length = 6 → ∃ a b c d e f, l = [a, b, c, d, e, f]
  | [a, b, c, d, e, f], _ => ⟨a, b, c, d, e, f, rfl⟩
theorem lSplit {α : Type} {l : List α} (n m : Nat) (h : l.length = n + m) : ∃ a b, l = a ++ b ∧ a.length = n ∧ b.length = m := ⟨l.take n, l.drop n, (List.take_append_drop n l).symm, by rw [List.length_take]; omega, by rw [List.length_drop]; omega⟩
theorem l12 {α : Type} {l : List α} (h : l.length = 12) : ∃ v0 v1 v2 v3 v4 v5 v6 v7 v8 v9 v10 v11, l = [v0, v1, v2, v3, v4, v5, v6, v7, v8, v9, v10, v11] := by
  obtain ⟨a, b, rfl, ha, hb⟩ := lSplit 6 6 h
  obtain ⟨v0, v1, v2, v3, v4, v5, rfl⟩ := l6 ha
  obtain ⟨v6, v7, v8, v9, v10, v11, rfl⟩ := l6 hb
  exact ⟨v0, v1, v2, v3, v4, v5, v6, v7, v8, v9, v10, v11, rfl⟩
theorem l13 {α : Type} {l : List α} (h : l.length = 13) : ∃ v v0 v1 v2 v3 v4 v5 v6 v7 v8 v9 v10 v11, l = [v, v0, v1, v2, v3, v4, v5, v6, v7, v8, v9, v10, v11] := by
  cases l with
  | nil => cases h
  | cons v l =>
    obtain ⟨v0, v1, v2, v3, v4, v5, v6, v7, v8, v9, v10, v11, rfl⟩ := l12 (l := l) (by simpa using h)
    exact ⟨v, v0, v1, v2, v3, v4, v5, v6, v7, v8, v9, v10, v11, rfl⟩
theorem cellsM_l3 : ∀ l, (cellsM l).length = l.length * 3
  | [] => rfl
  | x :: l => by
    show (_ ++ cellsM l).length = _
    rw [List.length_append, cellsM_l3 l, List.length_cons]
    simp
    omega
/-- A slice's elements, each out of its reading. -/
theorem sl_of {fuel : Nat} {t e : TypeId} {v : Value} {x : DataW H × List MemPlace} (c : Nat) (hc : Tryz.prog.cellsOf e = c) (hc0 : 0 < c) (ht : Tryz.prog.underlying t = some (.slice e)) (h : Rdg enc W fuel t [v] x) :
    ∃ ao len cap, v = .slice ao len cap ∧ len ≤ cap ∧ len ≤ 9223372036854775807 ∧ ∃ b off n, n < fuel ∧ (0 < len → ao = some ⟨b, off, none⟩) ∧ ∀ i, i < len → ∃ cs' x', cs'.length = c ∧ (∀ j, j < c → W.cell? ⟨b, off + (i * c + j), none⟩ = cs'[j]?) ∧ Rdg enc W n e cs' x' := by
  rcases DataW.trod_slice ht h with h0 | ⟨a, len, cap, elems, rest, n, hn, hcs, _, _, hl, hm, hlen, hel, _, _⟩
  · have e0 : v = .slice none 0 0 := by simpa using h0.1
    cases fuel with
    | zero => cases h
    | succ m => exact ⟨none, 0, 0, e0, by omega, by omega, 0, 0, m, by omega, fun q => by omega, fun i q => by omega⟩
  · have e0 : v = .slice (some a) len cap := by simpa using hcs
    have key : ∀ i, i < len → ∃ cs' x', W.cells? 0 (a.add (i * c)) c = some cs' ∧ Rdg enc W n e cs' x' := fun i hi => by
      have h1 := hel i hi
      rw [List.getElem?_eq_getElem (by omega), hc] at h1
      cases hq : W.cells? 0 (a.add (i * c)) c with
      | none => rw [hq] at h1; cases h1
      | some cs' => rw [hq] at h1; exact ⟨cs', _, rfl, h1⟩
    obtain ⟨b, off, spot⟩ := a
    have hsp : 0 < len → spot = none := fun hp => by
      obtain ⟨cs', x', h1, _⟩ := key 0 hp
      obtain ⟨_, hl', hcell⟩ := World.cells?_some h1
      have h2 := hcell 0 hc0
      rw [List.getElem?_eq_getElem (by omega)] at h2
      simpa [Addr.add] using World.cell?_spot h2
    refine ⟨_, len, cap, e0, hl, by unfold maxLen at hm; omega, b, off, n, by omega, fun hp => ?_, fun i hi => ?_⟩
    · rw [hsp hp]
    · obtain ⟨cs', x', h1, h3⟩ := key i hi
      obtain ⟨_, hl', hcell⟩ := World.cells?_some h1
      obtain rfl := hsp (by omega)
      refine ⟨cs', x', hl', fun j hj => ?_, h3⟩
      have h4 := hcell j hj
      rw [add_add, Addr.add_lit] at h4
      exact h4
theorem str_of {fuel : Nat} {v : Value} {x : DataW H × List MemPlace} (h : Rdg enc W fuel 9 [v] x) : ∃ s : Str, v = tx s ∧ Big s := by
  obtain ⟨s, z, _, b⟩ := DataW.trod_string Tryz.underlying9 h
  obtain ⟨l, q, n⟩ := tx_of s
  refine ⟨l, ?_, ?_⟩
  · have : v = .string s := by simpa using z
    rw [this, ← q]
  · show l.length ≤ _
    unfold maxLen at b
    omega
theorem num_of {fuel : Nat} {v : Value} {x : DataW H × List MemPlace} (h : Rdg enc W fuel 3 [v] x) : ∃ n : Int, v = .int .i64 n := by
  obtain ⟨n, z, _, _⟩ := DataW.trod_int Tryz.underlying3 h
  exact ⟨n, by simpa using z⟩
theorem i64_of {fuel : Nat} {v : Value} {x : DataW H × List MemPlace} (h : Rdg enc W fuel 2 [v] x) : ∃ n : Int, v = .int .i64 n ∧ -9223372036854775808 ≤ n ∧ n ≤ 9223372036854775807 := by
  obtain ⟨n, z, _, wf⟩ := DataW.trod_int Tryz.underlying2 h
  exact ⟨n, by simpa using z, by simpa [Lit.wf, IntKind.min, IntKind.max, IntKind.signed, IntKind.bits] using wf⟩
theorem bool_of {fuel : Nat} {v : Value} {x : DataW H × List MemPlace} (h : Rdg enc W fuel 4 [v] x) : ∃ n : Bool, v = .bool n := by
  obtain ⟨n, z, _⟩ := DataW.trod_bool Tryz.underlying4 h
  exact ⟨n, by simpa using z⟩
theorem strs9_of {fuel : Nat} {v : Value} {x : DataW H × List MemPlace} (h : Rdg enc W fuel 26 [v] x) : ∃ l : List Str, SlP (fun _ => True) W v l.length (l.map tx) ∧ (∀ y ∈ l, Big y) ∧ l.length ≤ 9223372036854775807 := by
  obtain ⟨ao, len, cap, rfl, hl, hm, b, off, n, _, hao, hel⟩ := sl_of 1 cS (by omega) Tryz.underlying26 h
  obtain ⟨f, hf⟩ := @choose_lt Str ⟨[]⟩ len (fun i s => W.cell? ⟨b, off + i, none⟩ = some (tx s) ∧ Big s) (fun i hi => by
    obtain ⟨cs', x', h1, h2, h3⟩ := hel i hi
    match cs', h1 with
    | [u], _ =>
      obtain ⟨s, rfl, hb⟩ := str_of h3
      have h4 := h2 0 (by omega)
      exact ⟨s, by simpa using h4, hb⟩)
  refine ⟨(List.range len).map f, ⟨ao, cap, by simp, by simpa using hl, fun hp => ?_⟩, ?_, by simpa using hm⟩
  · have hp' : 0 < len := by simpa using hp
    refine ⟨b, off, hao hp', trivial, fun j hj => ?_⟩
    have hj' : j < len := by simpa using hj
    rw [(hf j hj').1]
    simp [hj']
  · intro y hy
    obtain ⟨i, hi, rfl⟩ := List.mem_map.1 hy
    exact (hf i (List.mem_range.1 hi)).2
theorem mats9_of {fuel : Nat} {v : Value} {x : DataW H × List MemPlace} (h : Rdg enc W fuel 25 [v] x) : ∃ l : List Mt, SlP (fun _ => True) W v l.length (cellsM l) ∧ (∀ y ∈ l, Big y.name ∧ Big y.text) ∧ l.length ≤ 9223372036854775807 := by
  obtain ⟨ao, len, cap, rfl, hl, hm, b, off, n, _, hao, hel⟩ := sl_of 3 c87 (by omega) Tryz.underlying25 h
  obtain ⟨f, hf⟩ := @choose_lt Mt ⟨⟨[], 0, []⟩⟩ len (fun i s => (W.cell? ⟨b, off + (i * 3 + 0), none⟩ = some (tx s.name) ∧ W.cell? ⟨b, off + (i * 3 + 1), none⟩ = some (.int .i64 s.kind) ∧ W.cell? ⟨b, off + (i * 3 + 2), none⟩ = some (tx s.text)) ∧ Big s.name ∧ Big s.text) (fun i hi => by
    obtain ⟨cs', x', h1, h2, h3⟩ := hel i hi
    obtain ⟨xs, k, _, _, _, hxl, hfs⟩ := DataW.trod_struct Tryz.underlying87 h3
    obtain ⟨y0, y1, y2, rfl⟩ := l3 (hxl.trans rfl)
    obtain ⟨v0, v1, v2, rfl⟩ := l3 h1
    · have g0 := hfs 0 _ rfl
      have g1 := hfs 1 _ rfl
      have g2 := hfs 2 _ rfl
      simp [cS, cI] at g0 g1 g2
      obtain ⟨s0, rfl, b0⟩ := str_of g0
      obtain ⟨n1, rfl⟩ := num_of g1
      obtain ⟨s2, rfl, b2⟩ := str_of g2
      exact ⟨⟨s0, n1, s2⟩, ⟨by simpa using h2 0 (by omega), by simpa using h2 1 (by omega), by simpa using h2 2 (by omega)⟩, b0, b2⟩)
  have hml : ((List.range len).map f).length = len := by simp
  refine ⟨(List.range len).map f, ⟨ao, cap, by rw [hml], by rw [hml]; exact hl, fun hp => ?_⟩, ?_, by rw [hml]; exact hm⟩
  · have hp' : 0 < len := by rw [hml] at hp; exact hp
    refine ⟨b, off, hao hp', trivial, fun j hj => ?_⟩
    have hcl : (cellsM ((List.range len).map f)).length = len * 3 := by rw [cellsM_len, hml]
    rw [hcl] at hj
    have hi : j / 3 < len := by omega
    obtain ⟨a0, a1, a2⟩ := cellsM_at ((List.range len).map f) (j / 3) (by rw [hml]; exact hi)
    have hfi : ((List.range len).map f).getD (j / 3) ⟨[], 0, []⟩ = f (j / 3) := by simp [List.getD, hi]
    rw [hfi] at a0 a1 a2
    obtain ⟨⟨p0, p1, p2⟩, _⟩ := hf (j / 3) hi
    rcases (by omega : j % 3 = 0 ∨ j % 3 = 1 ∨ j % 3 = 2) with hr | hr | hr
    · have e : j = j / 3 * 3 := by omega
      rw [e, a0, ← p0, Nat.add_zero]
    · have e : j = j / 3 * 3 + 1 := by omega
      rw [e, a1, ← p1]
    · have e : j = j / 3 * 3 + 2 := by omega
      rw [e, a2, ← p2]
  · intro y hy
    obtain ⟨i, hi, rfl⟩ := List.mem_map.1 hy
    exact (hf i (List.mem_range.1 hi)).2
theorem tree_of : ∀ (fuel : Nat) (cs : List Value) (x : DataW H × List MemPlace), Rdg enc W fuel 29 cs x → ∃ e, TrP (fun _ => True) W e cs.toArray ∧ Sm e ∧ Vr e := by
  intro fuel
  induction fuel using Nat.strongRecOn with
  | _ fuel ih =>
    intro cs x h
    obtain ⟨xs, k, hk, _, hlen, hxl, hfs⟩ := DataW.trod_struct Tryz.underlying29 h
    rw [c29] at hlen
    obtain ⟨y0, y1, y2, y3, y4, y5, y6, y7, y8, y9, y10, y11, rfl⟩ := l12 (hxl.trans rfl)
    obtain ⟨v0, v1, v2, v3, v4, v5, v6, v7, v8, v9, v10, v11, v12, rfl⟩ := l13 hlen
    · have g0 := hfs 0 _ rfl
      have g1 := hfs 1 _ rfl
      have g2 := hfs 2 _ rfl
      have g3 := hfs 3 _ rfl
      have g4 := hfs 4 _ rfl
      have g5 := hfs 5 _ rfl
      have g6 := hfs 6 _ rfl
      have g7 := hfs 7 _ rfl
      have g8 := hfs 8 _ rfl
      have g9 := hfs 9 _ rfl
      have g10 := hfs 10 _ rfl
      have g11 := hfs 11 _ rfl
      simp [cS, cI, cB, cN, c25, c26, c27] at g0 g1 g2 g3 g4 g5 g6 g7 g8 g9 g10 g11
      obtain ⟨n0, rfl⟩ := num_of g0
      obtain ⟨n1, rfl⟩ := num_of g1
      obtain ⟨xs2, k2, _, _, _, hxl2, hfs2⟩ := DataW.trod_struct Tryz.underlying24 g2
      obtain ⟨z0, z1, rfl⟩ := l2 (hxl2.trans rfl)
      · have r0 := hfs2 0 _ rfl
        have r1 := hfs2 1 _ rfl
        simp [cB, cJ] at r0 r1
        obtain ⟨o, rfl⟩ := bool_of r0
        obtain ⟨nv, rfl, hv0, hv1⟩ := i64_of r1
        obtain ⟨s, rfl, hsb⟩ := str_of g3
        obtain ⟨m, sm, hmb, hml⟩ := mats9_of g4
        obtain ⟨nr, rfl⟩ := num_of g5
        obtain ⟨b1, rfl⟩ := bool_of g6
        obtain ⟨b2, rfl⟩ := bool_of g7
        obtain ⟨b3, rfl⟩ := bool_of g8
        obtain ⟨b4, rfl⟩ := bool_of g9
        obtain ⟨ns, sn, hnb, hnl⟩ := strs9_of g10
        obtain ⟨ao, len, cap, rfl, hl, hm, b, off, n, hn, hao, hel⟩ := sl_of 13 c29 (by omega) Tryz.underlying27 g11
        obtain ⟨f, hf⟩ := @choose_lt (Ex × List Value) ⟨(ex0, [])⟩ len (fun i p => p.2.length = 13 ∧ (∀ j, j < 13 → W.cell? ⟨b, off + (i * 13 + j), none⟩ = p.2[j]?) ∧ TrP (fun _ => True) W p.1 p.2.toArray ∧ Sm p.1 ∧ Vr p.1) (fun i hi => by
          obtain ⟨cs', x', q1, q2, q3⟩ := hel i hi
          obtain ⟨e, te, se, ve⟩ := ih n (by omega) cs' x' q3
          exact ⟨(e, cs'), q1, q2, te, se, ve⟩)
        refine ⟨⟨n0, n1, o, nv, s, m, nr, b1, b2, b3, b4, ns, (List.range len).map fun i => (f i).1⟩, ?_, ?_, ?_⟩
        · rw [Tr_eq]
          refine ⟨_, _, _, (List.range len).map fun i => (f i).2.toArray, rfl, sm, sn, ?_, by simp, fun i y hy hi => ?_⟩
          · refine ⟨ao, cap, by simp, by simpa using hl, fun hp => ?_⟩
            have hp' : 0 < len := by simpa using hp
            refine ⟨b, off, hao hp', trivial, fun j hj => ?_⟩
            have all : ∀ a ∈ (List.range len).map (fun i => (f i).2.toArray), a.size = 13 := fun a ha => by
              obtain ⟨i, hi, rfl⟩ := List.mem_map.1 ha
              have := (hf i (List.mem_range.1 hi)).1
              simpa using this
            rw [flat_len _ all] at hj
            simp only [List.length_map, List.length_range] at hj
            have hi : j / 13 < len := by omega
            have e : j = j / 13 * 13 + j % 13 := by omega
            have hq := flat13 _ all (j / 13) (j % 13) (by simpa using hi) (by omega)
            rw [← e] at hq
            rw [hq]
            have hg : ((List.range len).map fun i => (f i).2.toArray).getD (j / 13) #[] = (f (j / 13)).2.toArray := by simp [List.getD, hi]
            rw [hg]
            have hw := (hf (j / 13) hi).2.1 (j % 13) (by omega)
            rw [← e] at hw
            rw [hw]
            simp
          · have hi' : i < len := by
              have := (List.getElem?_eq_some_iff.1 hi).1
              simpa using this
            have hy2 : y = (f i).1 := by
              simp [hi'] at hi
              exact hi.symm
            have hg : ((List.range len).map fun i => (f i).2.toArray).getD i #[] = (f i).2.toArray := by simp [List.getD, hi']
            rw [hg, hy2]
            exact (hf i hi').2.2.1
        · refine (Sm_eq _).2 ⟨hsb, hmb, hnb, hml, hnl, by simpa using hm, fun y hy => ?_⟩
          obtain ⟨i, hi, rfl⟩ := List.mem_map.1 hy
          exact (hf i (List.mem_range.1 hi)).2.2.2.1
        · refine (Vr_eq _).2 ⟨⟨hv0, hv1⟩, fun y hy => ?_⟩
          obtain ⟨i, hi, rfl⟩ := List.mem_map.1 hy
          exact (hf i (List.mem_range.1 hi)).2.2.2.2
end
end Go.Proofs.YteankdaegdhfiaaGreatDoor
/- TypesTell: for every input the law returns true, and its arguments read as they did: the row, and its card, tied to the program's text. Conditions: none beyond the card's own. -/
namespace Go.Proofs.YteankdaegdhfiaaGreatDoor.typesTellRow
open Go.ChangeShapes Go.WideShapes Go.ChangeAt Go.RowKit Go.Joins Go.ChangeMaps

theorem own : ownKnob Tryz.prog.godebug = none := by kernel_rfl
set_option maxRecDepth 100000 in
theorem lifted (os : Os) (started : os.Started) (H : Type) (enc : TypeId × Value → H) :
    ReturnsInHanded {} Tryz.checked os 6 .any (fun w args => (Rows.typesTellSpec.pre enc Tryz.prog Tryz.f6 Rows.typesTellRow.domain false w args ∧ laidMetH Tryz.prog Rows.typesTellRow.laid w) ∧ sizedMet enc Tryz.prog Tryz.f6 (OpenSpec.ofChange Rows.typesTellSpec) false w args)
      (Rows.typesTellSpec.post enc Tryz.prog Tryz.f6 false true false false) := by
  refine lift_env (fun _ _ _ hh h => h.of_heap hh) (C := Tryz.checked) (X := fun w _ => laidMetH Tryz.prog Rows.typesTellRow.laid w) own started (by kernel_rfl) Tryz.func6
    (ChangeSpec.witness_shaped (enc := enc) (C := Tryz.checked) (os := os) (X := fun w _ => laidMetH Tryz.prog Rows.typesTellRow.laid w) false (wL Tryz.prog os 183 (.pointer (some ⟨9, 93, none⟩)) Rows.typesTellRow.laid) #[.agg #[.int .i64 0, .int .i64 0, .bool false, .int .i64 0, .string ⟨#[]⟩, .slice none 0 0, .int .i64 0, .bool false, .bool false, .bool false, .bool false, .slice none 0 0, .slice none 0 0], .string ⟨#[]⟩] 8 (wL_os _ _ _ _ _)
      (World.shaped_of_ZipB (by kernel_rfl) (by kernel_rfl)) (by kernel_rfl) (by kernel_rfl) (by kernel_rfl)
      (wL_met _ (by kernel_rfl) (by kernel_rfl) (by kernel_rfl))) ?_
  intro W base args ds gs before hval0 hW hsh hL
  have hval : ∀ (j : Nat) t v, Tryz.f6.params[j]? = some t → args[j]? = some v → Value.okWide Tryz.prog W .any base t v := hval0
  have hW' := hW
  obtain ⟨p, q, hA0, hV, rfl, hfz, hnd⟩ := hW
  have hA : DataW.TrodAll enc Tryz.prog W 0 (fun _ => true) true Tryz.f6.params.toList args.toList ds p := hA0
  rw [Tryz.params6] at hA hval
  obtain ⟨v0, vs0, d0, ds0, p0, q0, hargs, rfl, rfl, h0, r0⟩ := trodAll_cons hA
  obtain ⟨v1, vs1, d1, ds1, p1, q1, rfl, rfl, rfl, h1, r1⟩ := trodAll_cons r0
  obtain ⟨rfl, rfl, rfl⟩ := trodAll_nil r1
  obtain rfl : args = #[v0, v1] := by cases args; simp_all
  obtain ⟨rfl, rfl⟩ := trodVars_none hV
  have k0 := h0
  have lt0 : ∀ x ∈ p0, x.block < W.heap.size := by obtain ⟨m, hm⟩ := k0; exact DataW.trod_lt m _ _ _ hm
  obtain ⟨cs0, rfl, _⟩ := okWide_struct Tryz.underlying29 (hval 0 29 v0 rfl rfl)
  obtain ⟨fu0, hfu0⟩ := h0
  obtain ⟨e0, te0, se0, ve0⟩ := tree_of fu0 cs0.toList _ hfu0
  rw [Array.toArray_toList] at te0
  obtain ⟨s1, rfl, rfl, rfl, w1⟩ := open_string Tryz.underlying9 (hval 1 9 v1 rfl rfl) h1
  obtain ⟨l1, rfl, ln1⟩ := tx_of s1
  have b1 : l1.length ≤ 9223372036854775807 := by rw [ln1]; unfold maxLen at w1; omega
  clear hA0 hval0
  simp only [List.append_nil] at hW'
  refine (tell_any e0 cs0 l1 W te0 se0 ve0 b1   (env_ty hsh hL)).mono fun e W' ⟨he, hg⟩ => ?_
  subst he
  exact ⟨_, rfl, _, _, _, [], _, [], hW', trodAll_mk1 (shut_bool Tryz.underlying4 _), (trodAll_cons_mk (Below.trod laidOut (by kernel_rfl) (of_decide_eq_true (by kernel_rfl)) k0 hg lt0) (trodAll_cons_mk (shut_string Tryz.underlying9 w1) trodAll_mk0)), rfl, hg.frame _, fun h => by cases h⟩

theorem c1 : Rows.typesTellRow.inPlace = Tryz.prog.inPlace 6 := by kernel_rfl
theorem c2 : Rows.typesTellRow.unfollowed = Tryz.prog.unfollowed 6 := by kernel_rfl
theorem c3 : Rows.typesTellRow.recurses = Tryz.prog.recurses 6 := by kernel_rfl
theorem c4 : Rows.typesTellRow.named = Tryz.prog.varsNamed 6 := by kernel_rfl
theorem facts : joinedFacts Tryz.prog 6 Tryz.f6 Rows.typesTellSpec Rows.typesTellRow = true := by
  unfold joinedFacts
  rw [← c1, ← c2, ← c3, ← c4]
  kernel_rfl
theorem wraps : Tryz.f6.isWrapper Tryz.prog Rows.typesTellRow.wrapper Rows.typesTellRow.mainSum := by unfold Func.isWrapper; first | (rw [if_pos (by decide +kernel)]; kernel_rfl) | (rw [if_neg (by decide +kernel)]; exact ⟨rfl, rfl⟩)
theorem inst : Tryz.f6.isInstance Tryz.prog Rows.typesTellRow.origin Rows.typesTellRow.targs := of_decide_eq_true (by kernel_rfl)
theorem goes : false = Rows.typesTellRow.goesBy Tryz.prog := by kernel_rfl
theorem text : Rows.typesTellRow.wfByText (OpenSpec.ofChange Rows.typesTellSpec) = true := by kernel_rfl
theorem looks : true = Tryz.prog.looks [] := by kernel_rfl
theorem holds : Rows.TypesTellSaid :=
  OpenClaim.holds_of_wide 6 Tryz.f6 rfl rfl rfl rfl rfl rfl rfl ⟨rfl, rfl, rfl, rfl, rfl⟩ rfl rfl rfl rfl rfl (by kernel_rfl) Tryz.func6 facts inst wraps (fun os started H enc _ => lifted os started H enc)
end Go.Proofs.YteankdaegdhfiaaGreatDoor.typesTellRow
namespace Go.Proofs.YteankdaegdhfiaaGreatDoor
open Go
theorem typesTell_card : Rows.TypesTellCardSaid :=
  Claim7.holds_tied_plain_at .later [] [.data, .data, .data, .data, .handle, .sentinel, .sentinel, .pinned] true (true, "fc8e6130e7cffdc4306bfdd31a4c3f023174449f413e0b6ecd463494529c6174") true typesTellRow.holds (fun _ h => by cases h) typesTellRow.text (fun _ h => by cases h) typesTell_row_tie rfl ⟨rfl, rfl⟩ (by kernel_rfl) rfl
    (fun f fn hf hfn => by
      obtain rfl : f = 6 := Option.some.inj ((show Tryz.prog.funcNamed "spillway/spillwaylaw9.TypesTell" = some 6 by kernel_rfl).symm.trans hf) |>.symm
      obtain rfl : fn = Tryz.f6 := (Option.some.inj (Tryz.func6.symm.trans hfn)).symm
      exact ⟨typesTellRow.looks, fun j t ht => by
        rw [Tryz.params6] at ht
        have hm : t ∈ [29, 9] := by simpa using Array.mem_of_getElem? ht
        have hall : ([29, 9].all fun u => !Tryz.prog.wantsStandIn u) = true := by kernel_rfl
        exact (show Tryz.prog.wantsStandIn t = false by simpa using List.all_eq_true.1 hall t hm)⟩)
    typesTellRow.goes
end Go.Proofs.YteankdaegdhfiaaGreatDoor
