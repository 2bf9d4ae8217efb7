/- FixEdges: the walk. -/
import Derived.Test.YtibdlcegmepbcabDoorSub
import Derived.Test.YtibdlcegmepbcabDoorAlg
import Derived.Deep.CutBlock
namespace Go.Proofs.YtibdlcegmepbcabDoor
open Go.RowKit

theorem mem3 {o p q : Bool} {n m k : Int} (hn : R64 n) (hm : R64 m) (hk : R64 k) : ∀ x ∈ [(o, n), (p, m), (q, k)], -9223372036854775808 ≤ x.2 ∧ x.2 ≤ 9223372036854775807 := by
  intro x hx
  rcases List.mem_cons.1 hx with rfl | hx
  · exact hn
  · rcases List.mem_cons.1 hx with rfl | hx
    · exact hm
    · rcases List.mem_cons.1 hx with rfl | hx
      · exact hk
      · cases hx
theorem cnt_top : cnt false 9223372036854775807 = some 9223372036854775807 := ex_cnt _ (by decide)
theorem cnt_ntop : cnt false (-9223372036854775807) = some (-9223372036854775807) := ex_cnt _ (by decide)
theorem cnt_d {d : Int} (h : 0 < d) : cnt false d = some d := ex_cnt _ (by omega)
theorem e_add {d : Int} (h : 0 < d) : fAdd (cnt false 9223372036854775807) (cnt false d) = none := by
  rw [cnt_top, cnt_d h]
  show norm _ = _
  unfold norm
  rw [if_neg (by omega)]
theorem e_add0 : fAdd (cnt false 9223372036854775807) (cnt false 0) = some 9223372036854775807 := by decide +kernel
theorem e_neg : fNeg (cnt false 9223372036854775807) = some (-9223372036854775807) := by decide +kernel
theorem e_sub {d : Int} (h : 0 < d) : fAdd (cnt false (-9223372036854775807)) (fNeg (cnt false d)) = none := by
  rw [cnt_ntop, cnt_d h]
  show norm _ = _
  unfold norm
  rw [if_neg (by omega)]
theorem e_sub0 : fAdd (cnt false (-9223372036854775807)) (fNeg (cnt false 0)) = some (-9223372036854775807) := by decide +kernel
theorem e_dif {d : Int} (h : 0 < d) (h1 : d ≤ 4294967295) : fAdd (cnt false 9223372036854775807) (fNeg (cnt false d)) = some (9223372036854775807 - d) := by
  rw [cnt_top, cnt_d h]
  show norm _ = _
  unfold norm
  rw [if_pos (by omega)]
  exact congrArg some (by omega)
theorem e_dif0 : fAdd (cnt false 9223372036854775807) (fNeg (cnt false 0)) = some 9223372036854775807 := by decide +kernel
theorem e_is : fIs false 9223372036854775807 = true := by decide +kernel
theorem e_isnt : fIs false (-9223372036854775808) = false := by decide +kernel
theorem e_of2 : fOf 2 = some 2000000 := by decide +kernel
theorem e_mul : fMul (cnt false 9223372036854775807) (cnt false 2000000) = none := by decide +kernel
theorem e_quo : fDiv (cnt false 9223372036854775807) (cnt false 500000) = none := by decide +kernel
theorem e_sum {d : Int} (h : 0 < d) (h1 : d ≤ 4294967295) : fSum (cnts [(false, 9223372036854775807), (false, d), (false, -9223372036854775807)]) = some d := by
  have e : sumL [some 9223372036854775807, some d, some (-9223372036854775807)] = some d := by
    simp [sumL, oadd]
    omega
  unfold cnts fSum
  simp only [List.map_cons, List.map_nil, cnt_top, cnt_d h, cnt_ntop, e]
  unfold norm
  rw [if_pos (by omega)]
theorem five0 (w : World) : (Instr.index 29 (.agg #[.bool true, .int .i64 0, .bool true, .int .i64 0, .bool true, .int .i64 0, .bool true, .int .i64 0, .bool true, .int .i64 0]) (.int .i64 0)).run Tryd.prog w = .ok (.agg #[.bool true, .int .i64 0]) w := by kernel_rfl
theorem five1 (w : World) : (Instr.index 29 (.agg #[.bool true, .int .i64 0, .bool true, .int .i64 0, .bool true, .int .i64 0, .bool true, .int .i64 0, .bool true, .int .i64 0]) (.int .i64 1)).run Tryd.prog w = .ok (.agg #[.bool true, .int .i64 0]) w := by kernel_rfl
theorem five2 (w : World) : (Instr.index 29 (.agg #[.bool true, .int .i64 0, .bool true, .int .i64 0, .bool true, .int .i64 0, .bool true, .int .i64 0, .bool true, .int .i64 0]) (.int .i64 2)).run Tryd.prog w = .ok (.agg #[.bool true, .int .i64 0]) w := by kernel_rfl
theorem five3 (w : World) : (Instr.index 29 (.agg #[.bool true, .int .i64 0, .bool true, .int .i64 0, .bool true, .int .i64 0, .bool true, .int .i64 0, .bool true, .int .i64 0]) (.int .i64 3)).run Tryd.prog w = .ok (.agg #[.bool true, .int .i64 0]) w := by kernel_rfl
theorem five4 (w : World) : (Instr.index 29 (.agg #[.bool true, .int .i64 0, .bool true, .int .i64 0, .bool true, .int .i64 0, .bool true, .int .i64 0, .bool true, .int .i64 0]) (.int .i64 4)).run Tryd.prog w = .ok (.agg #[.bool true, .int .i64 0]) w := by kernel_rfl
theorem e_sum0 : fSum (cnts [(false, 9223372036854775807), (false, 0), (false, -9223372036854775807)]) = some 0 := by decide +kernel

set_option maxRecDepth 20000 in
set_option maxHeartbeats 8000000 in
theorem edges_pos (d : Int) (hd0 : 0 < d) (hd1 : d ≤ 4294967295) (o : Bool) (n : Int) (hn : R64 n) (w : World) (ht : Tab Tryd.prog w) :
    Calls Tryd.prog 3 #[.int .u32 d, .agg #[.bool o, .int .i64 n]] w fun e w' => e = .returned (.bool true) ∧ Below w.heap.size w w' := by
  have hfd := field_ovf
  have hi0 := five0
  have hi1 := five1
  have hi2 := five2
  have hi3 := five3
  have hi4 := five4
  have hx0 := Box.new w o n
  have hb0 : Below w.heap.size w (w.alloc (.cells #[.bool o, .int .i64 n] 24)) := bal (Below.refl _ _) _
  have hd64 : R64 d := ⟨by omega, by omega⟩
  have hd2 : wrap64 d = d := by unfold wrap64; omega
  have c1 : ∀ w, Calls Tryd.prog 6 #[.agg #[.bool false, .int .i64 9223372036854775807], .agg #[.bool false, .int .i64 d]] w fun e w' => e = .returned (.agg #[.bool true, .int .i64 0]) ∧ Below w.heap.size w w' := fun w => by have h := add_any false false 9223372036854775807 d w ⟨by decide, by decide⟩ hd64; rw [e_add hd0] at h; exact h
  have c2 : ∀ w, Calls Tryd.prog 8 #[.agg #[.bool false, .int .i64 9223372036854775807]] w fun e w' => e = .returned (.agg #[.bool false, .int .i64 (-9223372036854775807)]) ∧ Below w.heap.size w w' := fun w => by have h := neg_any false 9223372036854775807 w (by decide) (by decide); rw [e_neg] at h; exact h
  have c3 : ∀ w, Calls Tryd.prog 7 #[.agg #[.bool false, .int .i64 (-9223372036854775807)], .agg #[.bool false, .int .i64 d]] w fun e w' => e = .returned (.agg #[.bool true, .int .i64 0]) ∧ Below w.heap.size w w' := fun w => by have h := sub_any false false (-9223372036854775807) d w ⟨by decide, by decide⟩ hd64; rw [e_sub hd0] at h; exact h
  have c4 : ∀ w, Calls Tryd.prog 7 #[.agg #[.bool false, .int .i64 9223372036854775807], .agg #[.bool false, .int .i64 d]] w fun e w' => e = .returned (.agg #[.bool false, .int .i64 (9223372036854775807 - d)]) ∧ Below w.heap.size w w' := fun w => by have h := sub_any false false 9223372036854775807 d w ⟨by decide, by decide⟩ hd64; rw [e_dif hd0 hd1] at h; exact h
  have c5 : ∀ w, Calls Tryd.prog 9 #[.agg #[.bool false, .int .i64 9223372036854775807]] w fun e w' => e = .returned (.bool true) ∧ Below w.heap.size w w' := fun w => by have h := is_any false 9223372036854775807 w; rw [e_is] at h; exact h
  have c6 : ∀ w, Calls Tryd.prog 9 #[.agg #[.bool false, .int .i64 (-9223372036854775808)]] w fun e w' => e = .returned (.bool false) ∧ Below w.heap.size w w' := fun w => by have h := is_any false (-9223372036854775808) w; rw [e_isnt] at h; exact h
  have c7 : ∀ w, Calls Tryd.prog 6 #[.agg #[.bool true, .int .i64 0], .agg #[.bool o, .int .i64 n]] w fun e w' => e = .returned (.agg #[.bool true, .int .i64 0]) ∧ Below w.heap.size w w' := fun w => by have h := add_any true o 0 n w ⟨by decide, by decide⟩ hn; rw [show cnt true 0 = none from rfl, show ∀ x, fAdd none x = none from fun _ => rfl] at h; exact h
  have c8 : ∀ w, Calls Tryd.prog 7 #[.agg #[.bool o, .int .i64 n], .agg #[.bool true, .int .i64 0]] w fun e w' => e = .returned (.agg #[.bool true, .int .i64 0]) ∧ Below w.heap.size w w' := fun w => by have h := sub_any o true n 0 w hn ⟨by decide, by decide⟩; rw [show cnt true 0 = none from rfl, show ∀ x, fAdd x (fNeg none) = none from fun x => by cases x <;> rfl] at h; exact h
  have c9 : ∀ w, Calls Tryd.prog 10 #[.agg #[.bool true, .int .i64 0], .agg #[.bool o, .int .i64 n]] w fun e w' => e = .returned (.agg #[.bool true, .int .i64 0]) ∧ Below w.heap.size w w' := fun w => by have h := mul_any true o 0 n w ⟨by decide, by decide⟩ hn; rw [show cnt true 0 = none from rfl, show ∀ x, fMul none x = none from fun _ => rfl] at h; exact h
  have c10 : ∀ w, Calls Tryd.prog 11 #[.agg #[.bool o, .int .i64 n], .agg #[.bool true, .int .i64 0]] w fun e w' => e = .returned (.agg #[.bool true, .int .i64 0]) ∧ Below w.heap.size w w' := fun w => by have h := quo_any o true n 0 w hn ⟨by decide, by decide⟩; rw [show cnt true 0 = none from rfl, show ∀ x, fDiv x none = none from fun x => by cases x <;> rfl] at h; exact h
  have c11 : ∀ w, Calls Tryd.prog 8 #[.agg #[.bool true, .int .i64 0]] w fun e w' => e = .returned (.agg #[.bool true, .int .i64 0]) ∧ Below w.heap.size w w' := fun w => by have h := neg_any true 0 w (by decide) (by decide); exact h
  have c12 : ∀ w, Calls Tryd.prog 13 #[.int .i64 2] w fun e w' => e = .returned (.agg #[.bool false, .int .i64 2000000]) ∧ Below w.heap.size w w' := fun w => by have h := of_any 2 w ⟨by decide, by decide⟩; rw [e_of2] at h; exact h
  have c13 : ∀ w, Calls Tryd.prog 10 #[.agg #[.bool false, .int .i64 9223372036854775807], .agg #[.bool false, .int .i64 2000000]] w fun e w' => e = .returned (.agg #[.bool true, .int .i64 0]) ∧ Below w.heap.size w w' := fun w => by have h := mul_any false false 9223372036854775807 2000000 w ⟨by decide, by decide⟩ ⟨by decide, by decide⟩; rw [e_mul] at h; exact h
  have c14 : ∀ w, Calls Tryd.prog 11 #[.agg #[.bool false, .int .i64 9223372036854775807], .agg #[.bool false, .int .i64 500000]] w fun e w' => e = .returned (.agg #[.bool true, .int .i64 0]) ∧ Below w.heap.size w w' := fun w => by have h := quo_any false false 9223372036854775807 500000 w ⟨by decide, by decide⟩ ⟨by decide, by decide⟩; rw [e_quo] at h; exact h
  have hS3 : ∀ (W : World) (b : Nat), Ns W (some ⟨b, 0, none⟩) 3 [(false, 9223372036854775807), (false, d), (false, -9223372036854775807)] → Calls Tryd.prog 12 #[.slice (some ⟨b, 0, none⟩) 3 3] W fun e w' => e = .returned (.agg #[.bool false, .int .i64 d]) ∧ Below W.heap.size W w' := fun W b h => by have h := sum_any _ 3 3 _ W (by omega) h (mem3 ⟨by decide, by decide⟩ hd64 ⟨by decide, by decide⟩); rw [e_sum hd0 hd1] at h; exact h
  go_enter Tryd.func3, Tryd.ntmps3
  go_wp2_with fail
  generalize w.alloc (.cells #[.bool o, .int .i64 n] 24) = w0 at *
  refine (known_any _ (ht.later hb0)).mono ?_
  rintro e wk ⟨rfl, hbk⟩
  obtain ⟨h5', h6', h7'', hb5⟩ := boxes3 wk false false true 9223372036854775807 d 0
  have h7' : Box _ (wk.heap.size + 1 + 1) true 0 := h7''
  clear h7''
  have hx := (hx0.later hbk).later hb5
  have hb := Below.chain (Below.chain hb0 hbk) hb5
  have h5 := h5'
  have h6 := h6'
  have h7 := h7'
  clear h5' h6' h7' hx0
  go_upto_region 6 with fail
  generalize ((wk.alloc (.cells #[.bool false, .int .i64 9223372036854775807] 24)).alloc (.cells #[.bool false, .int .i64 d] 24)).alloc (.cells #[.bool true, .int .i64 0] 24) = w1 at *
  go_cut [48] from 17 to 47 (fun a wx => a = .bool false ∧ Box wx w.heap.size o n ∧ Box wx wk.heap.size false 9223372036854775807 ∧ Box wx (wk.heap.size + 1) false d ∧ Box wx (wk.heap.size + 1 + 1) true 0 ∧ Below w.heap.size w wx)
  case first =>
    have m0 := hx.at0
    have m1 := hx.at1
    have m2 := h5.at0
    have m3 := h5.at1
    have m4 := h6.at0
    have m5 := h6.at1
    have m6 := h7.at0
    have m7 := h7.at1
    refine wp_region_noPanic ?_
    refine wp_region_held_drew (S := fun W => Below w1.heap.size w1 W) (by kernel_rfl) ?_ (fun _ => ?_)
    · exact (Below.refl _ _).drew
    have B2 : Below w1.heap.size w1 w1.drew := (Below.refl _ _).drew
    generalize w1.drew = w2 at *
    refine take_at 0 (some 17) (.agg #[.bool false, .int .i64 9223372036854775807]) rfl rfl (by kernel_rfl) (by kernel_rfl) (by kernel_rfl) (fun _ _ _ h => h) (by rfl) (fun W hSw => by go_simp) B2 ?_
    simp only [Act.put, List.setIfInBounds_toArray, List.set_cons_zero, List.set_cons_succ]
    refine take_at 1 (some 18) (.agg #[.bool false, .int .i64 d]) rfl rfl (by kernel_rfl) (by kernel_rfl) (by kernel_rfl) (fun _ _ _ h => h) (by rfl) (fun W hSw => by go_simp) B2 ?_
    simp only [Act.put, List.setIfInBounds_toArray, List.set_cons_zero, List.set_cons_succ]
    refine take_at 4 (some 21) (.int .u32 d) rfl rfl (by kernel_rfl) (by kernel_rfl) (by kernel_rfl) (fun _ _ _ h => h) (by rfl) (fun W hSw => by go_simp) B2 ?_
    simp only [Act.put, List.setIfInBounds_toArray, List.set_cons_zero, List.set_cons_succ]
    refine take_at 5 (some 22) (.bool true) rfl rfl (by kernel_rfl) (by kernel_rfl) (by kernel_rfl) (fun _ _ _ h => h) (by rfl) (fun W hSw => by go_simp) B2 ?_
    simp only [Act.put, List.setIfInBounds_toArray, List.set_cons_zero, List.set_cons_succ]
    refine wpAnyH_ready (rs := [2]) (by kernel_rfl) (by simp) ?_
    refine AllReadyH.cons rfl (fun K hK => ?_) AllReadyH.nil
    go_simp
    refine (c1 _).mono ?_
    rintro e w11 ⟨rfl, hb11⟩
    have B11 := Below.chain B2 hb11
    refine hK.out _ _ ?_ (fun _ => ?_)
    · exact B11
    clear hK K
    refine take_at 3 (some 20) (.bool true) rfl rfl (by kernel_rfl) (by kernel_rfl) (by kernel_rfl) (fun _ _ _ h => h) (by rfl) (fun W hSw => by go_simp) B11 ?_
    simp only [Act.put, List.setIfInBounds_toArray, List.set_cons_zero, List.set_cons_succ]
    refine take_at 6 (some 23) (.bool false) rfl rfl (by kernel_rfl) (by kernel_rfl) (by kernel_rfl) (fun _ _ _ h => h) (by rfl) (fun W hSw => by go_simp) B11 ?_
    simp only [Act.put, List.setIfInBounds_toArray, List.set_cons_zero, List.set_cons_succ]
    refine take_at 7 (some 24) (.bool false) rfl rfl (by kernel_rfl) (by kernel_rfl) (by kernel_rfl) (fun _ _ _ h => h) (by rfl) (fun W hSw => by go_simp) B11 ?_
    simp only [Act.put, List.setIfInBounds_toArray, List.set_cons_zero, List.set_cons_succ]
    refine take_at 8 (some 25) (.agg #[.bool false, .int .i64 9223372036854775807]) rfl rfl (by kernel_rfl) (by kernel_rfl) (by kernel_rfl) (fun _ _ _ h => h) (by rfl) (fun W hSw => by go_simp) B11 ?_
    simp only [Act.put, List.setIfInBounds_toArray, List.set_cons_zero, List.set_cons_succ]
    refine take_at 10 (some 27) (.agg #[.bool false, .int .i64 d]) rfl rfl (by kernel_rfl) (by kernel_rfl) (by kernel_rfl) (fun _ _ _ h => h) (by rfl) (fun W hSw => by go_simp) B11 ?_
    simp only [Act.put, List.setIfInBounds_toArray, List.set_cons_zero, List.set_cons_succ]
    refine take_at 13 (some 30) (.int .u32 d) rfl rfl (by kernel_rfl) (by kernel_rfl) (by kernel_rfl) (fun _ _ _ h => h) (by rfl) (fun W hSw => by go_simp) B11 ?_
    simp only [Act.put, List.setIfInBounds_toArray, List.set_cons_zero, List.set_cons_succ]
    refine take_at 14 (some 31) (.bool true) rfl rfl (by kernel_rfl) (by kernel_rfl) (by kernel_rfl) (fun _ _ _ h => h) (by rfl) (fun W hSw => by go_simp) B11 ?_
    simp only [Act.put, List.setIfInBounds_toArray, List.set_cons_zero, List.set_cons_succ]
    refine wpAnyH_ready (rs := [9]) (by kernel_rfl) (by simp) ?_
    refine AllReadyH.cons rfl (fun K hK => ?_) AllReadyH.nil
    go_simp
    refine (c2 _).mono ?_
    rintro e w12 ⟨rfl, hb12⟩
    have B12 := Below.chain B11 hb12
    refine hK.out _ _ ?_ (fun _ => ?_)
    · exact B12
    clear hK K
    refine wpAnyH_ready (rs := [11]) (by kernel_rfl) (by simp) ?_
    refine AllReadyH.cons rfl (fun K hK => ?_) AllReadyH.nil
    go_simp
    refine (c3 _).mono ?_
    rintro e w13 ⟨rfl, hb13⟩
    have B13 := Below.chain B12 hb13
    refine hK.out _ _ ?_ (fun _ => ?_)
    · exact B13
    clear hK K
    refine take_at 12 (some 29) (.bool true) rfl rfl (by kernel_rfl) (by kernel_rfl) (by kernel_rfl) (fun _ _ _ h => h) (by rfl) (fun W hSw => by go_simp) B13 ?_
    simp only [Act.put, List.setIfInBounds_toArray, List.set_cons_zero, List.set_cons_succ]
    refine take_at 15 (some 32) (.bool false) rfl rfl (by kernel_rfl) (by kernel_rfl) (by kernel_rfl) (fun _ _ _ h => h) (by rfl) (fun W hSw => by go_simp) B13 ?_
    simp only [Act.put, List.setIfInBounds_toArray, List.set_cons_zero, List.set_cons_succ]
    refine take_at 16 (some 33) (.bool false) rfl rfl (by kernel_rfl) (by kernel_rfl) (by kernel_rfl) (fun _ _ _ h => h) (by rfl) (fun W hSw => by go_simp) B13 ?_
    simp only [Act.put, List.setIfInBounds_toArray, List.set_cons_zero, List.set_cons_succ]
    refine take_at 17 (some 34) (.bool false) rfl rfl (by kernel_rfl) (by kernel_rfl) (by kernel_rfl) (fun _ _ _ h => h) (by rfl) (fun W hSw => by go_simp) B13 ?_
    simp only [Act.put, List.setIfInBounds_toArray, List.set_cons_zero, List.set_cons_succ]
    refine take_at 18 (some 35) (.agg #[.bool false, .int .i64 9223372036854775807]) rfl rfl (by kernel_rfl) (by kernel_rfl) (by kernel_rfl) (fun _ _ _ h => h) (by rfl) (fun W hSw => by go_simp) B13 ?_
    simp only [Act.put, List.setIfInBounds_toArray, List.set_cons_zero, List.set_cons_succ]
    refine take_at 19 (some 36) (.agg #[.bool false, .int .i64 d]) rfl rfl (by kernel_rfl) (by kernel_rfl) (by kernel_rfl) (fun _ _ _ h => h) (by rfl) (fun W hSw => by go_simp) B13 ?_
    simp only [Act.put, List.setIfInBounds_toArray, List.set_cons_zero, List.set_cons_succ]
    refine wpAnyH_ready (rs := [20]) (by kernel_rfl) (by simp) ?_
    refine AllReadyH.cons rfl (fun K hK => ?_) AllReadyH.nil
    go_simp
    refine (c4 _).mono ?_
    rintro e w14 ⟨rfl, hb14⟩
    have B14 := Below.chain B13 hb14
    refine hK.out _ _ ?_ (fun _ => ?_)
    · exact B14
    clear hK K
    refine take_at 21 (some 38) (.bool false) rfl rfl (by kernel_rfl) (by kernel_rfl) (by kernel_rfl) (fun _ _ _ h => h) (by rfl) (fun W hSw => by go_simp) B14 ?_
    simp only [Act.put, List.setIfInBounds_toArray, List.set_cons_zero, List.set_cons_succ]
    refine take_at 22 (some 39) (.bool false) rfl rfl (by kernel_rfl) (by kernel_rfl) (by kernel_rfl) (fun _ _ _ h => h) (by rfl) (fun W hSw => by go_simp) B14 ?_
    simp only [Act.put, List.setIfInBounds_toArray, List.set_cons_zero, List.set_cons_succ]
    refine take_at 23 (some 40) (.bool false) rfl rfl (by kernel_rfl) (by kernel_rfl) (by kernel_rfl) (fun _ _ _ h => h) (by rfl) (fun W hSw => by go_simp) B14 ?_
    simp only [Act.put, List.setIfInBounds_toArray, List.set_cons_zero, List.set_cons_succ]
    refine take_at 24 (some 41) (.agg #[.bool false, .int .i64 9223372036854775807]) rfl rfl (by kernel_rfl) (by kernel_rfl) (by kernel_rfl) (fun _ _ _ h => h) (by rfl) (fun W hSw => by go_simp) B14 ?_
    simp only [Act.put, List.setIfInBounds_toArray, List.set_cons_zero, List.set_cons_succ]
    refine wpAnyH_ready (rs := [25]) (by kernel_rfl) (by simp) ?_
    refine AllReadyH.cons rfl (fun K hK => ?_) AllReadyH.nil
    go_simp
    refine (c5 _).mono ?_
    rintro e w15 ⟨rfl, hb15⟩
    have B15 := Below.chain B14 hb15
    refine hK.out _ _ ?_ (fun _ => ?_)
    · exact B15
    clear hK K
    refine take_at 26 (some 43) (.bool false) rfl rfl (by kernel_rfl) (by kernel_rfl) (by kernel_rfl) (fun _ _ _ h => h) (by rfl) (fun W hSw => by go_simp) B15 ?_
    simp only [Act.put, List.setIfInBounds_toArray, List.set_cons_zero, List.set_cons_succ]
    refine take_at 27 (some 44) (.bool false) rfl rfl (by kernel_rfl) (by kernel_rfl) (by kernel_rfl) (fun _ _ _ h => h) (by rfl) (fun W hSw => by go_simp) B15 ?_
    simp only [Act.put, List.setIfInBounds_toArray, List.set_cons_zero, List.set_cons_succ]
    refine take_at 28 (some 45) (.bool false) rfl rfl (by kernel_rfl) (by kernel_rfl) (by kernel_rfl) (fun _ _ _ h => h) (by rfl) (fun W hSw => by go_simp) B15 ?_
    simp only [Act.put, List.setIfInBounds_toArray, List.set_cons_zero, List.set_cons_succ]
    refine take_at 29 (some 46) (.agg #[.bool false, .int .i64 (-9223372036854775808)]) rfl rfl (by kernel_rfl) (by kernel_rfl) (by kernel_rfl) (fun _ _ _ h => h) (by rfl) (fun W hSw => by go_simp) B15 ?_
    simp only [Act.put, List.setIfInBounds_toArray, List.set_cons_zero, List.set_cons_succ]
    refine wpAnyH_ready (rs := [30]) (by kernel_rfl) (by simp) ?_
    refine AllReadyH.cons rfl (fun K hK => ?_) AllReadyH.nil
    go_simp
    refine (c6 _).mono ?_
    rintro e w16 ⟨rfl, hb16⟩
    have B16 := Below.chain B15 hb16
    refine hK.out _ _ ?_ (fun _ => ?_)
    · exact B16
    clear hK K
    refine take_at 31 (some 48) (.bool false) rfl rfl (by kernel_rfl) (by kernel_rfl) (by kernel_rfl) (fun _ _ _ h => h) (by rfl) (fun W hSw => by go_simp) B16 ?_
    simp only [Act.put, List.setIfInBounds_toArray, List.set_cons_zero, List.set_cons_succ]
    refine wpAnyH_done (by kernel_rfl) ?_ _
    refine NoPanic.normal ?_
    go_wp2_with fail
    go_meet
    exact ⟨rfl, hx.later B16, h5.later B16, h6.later B16, h7.later B16, Below.chain hb B16⟩
  case rest =>
    clear hx h5 h6 h7 hb hb5
    obtain ⟨rfl, hx, h5, h6, h7, hb⟩ := hcut
    go_upto_region 8 with fail
    generalize wc = w1 at *
    go_cut [63, 64] from 49 to 62 (fun a i wx => a = .agg #[.bool true, .int .i64 0, .bool true, .int .i64 0, .bool true, .int .i64 0, .bool true, .int .i64 0, .bool true, .int .i64 0] ∧ i = .int .i64 0 ∧ Box wx w.heap.size o n ∧ Box wx wk.heap.size false 9223372036854775807 ∧ Box wx (wk.heap.size + 1) false d ∧ Box wx (wk.heap.size + 1 + 1) true 0 ∧ Below w.heap.size w wx)
    case first =>
      have m0 := hx.at0
      have m1 := hx.at1
      have m2 := h5.at0
      have m3 := h5.at1
      have m4 := h6.at0
      have m5 := h6.at1
      have m6 := h7.at0
      have m7 := h7.at1
      refine wp_region_noPanic ?_
      refine wp_region_held_drew (S := fun W => Below w1.heap.size w1 W) (by kernel_rfl) ?_ (fun _ => ?_)
      · exact (Below.refl _ _).drew
      have B2 : Below w1.heap.size w1 w1.drew := (Below.refl _ _).drew
      generalize w1.drew = w2 at *
      refine take_at 0 (some 49) (.agg #[.bool true, .int .i64 0]) rfl rfl (by kernel_rfl) (by kernel_rfl) (by kernel_rfl) (fun _ _ _ h => h) (by rfl) (fun W hSw => by go_simp) B2 ?_
      simp only [Act.put, List.setIfInBounds_toArray, List.set_cons_zero, List.set_cons_succ]
      refine take_at 1 (some 50) (.agg #[.bool o, .int .i64 n]) rfl rfl (by kernel_rfl) (by kernel_rfl) (by kernel_rfl) (fun _ _ _ h => h) (by rfl) (fun W hSw => by go_simp) B2 ?_
      simp only [Act.put, List.setIfInBounds_toArray, List.set_cons_zero, List.set_cons_succ]
      refine take_at 3 (some 52) (.agg #[.bool o, .int .i64 n]) rfl rfl (by kernel_rfl) (by kernel_rfl) (by kernel_rfl) (fun _ _ _ h => h) (by rfl) (fun W hSw => by go_simp) B2 ?_
      simp only [Act.put, List.setIfInBounds_toArray, List.set_cons_zero, List.set_cons_succ]
      refine take_at 4 (some 53) (.agg #[.bool true, .int .i64 0]) rfl rfl (by kernel_rfl) (by kernel_rfl) (by kernel_rfl) (fun _ _ _ h => h) (by rfl) (fun W hSw => by go_simp) B2 ?_
      simp only [Act.put, List.setIfInBounds_toArray, List.set_cons_zero, List.set_cons_succ]
      refine take_at 6 (some 55) (.agg #[.bool true, .int .i64 0]) rfl rfl (by kernel_rfl) (by kernel_rfl) (by kernel_rfl) (fun _ _ _ h => h) (by rfl) (fun W hSw => by go_simp) B2 ?_
      simp only [Act.put, List.setIfInBounds_toArray, List.set_cons_zero, List.set_cons_succ]
      refine take_at 7 (some 56) (.agg #[.bool o, .int .i64 n]) rfl rfl (by kernel_rfl) (by kernel_rfl) (by kernel_rfl) (fun _ _ _ h => h) (by rfl) (fun W hSw => by go_simp) B2 ?_
      simp only [Act.put, List.setIfInBounds_toArray, List.set_cons_zero, List.set_cons_succ]
      refine take_at 9 (some 58) (.agg #[.bool o, .int .i64 n]) rfl rfl (by kernel_rfl) (by kernel_rfl) (by kernel_rfl) (fun _ _ _ h => h) (by rfl) (fun W hSw => by go_simp) B2 ?_
      simp only [Act.put, List.setIfInBounds_toArray, List.set_cons_zero, List.set_cons_succ]
      refine take_at 10 (some 59) (.agg #[.bool true, .int .i64 0]) rfl rfl (by kernel_rfl) (by kernel_rfl) (by kernel_rfl) (fun _ _ _ h => h) (by rfl) (fun W hSw => by go_simp) B2 ?_
      simp only [Act.put, List.setIfInBounds_toArray, List.set_cons_zero, List.set_cons_succ]
      refine take_at 12 (some 61) (.agg #[.bool true, .int .i64 0]) rfl rfl (by kernel_rfl) (by kernel_rfl) (by kernel_rfl) (fun _ _ _ h => h) (by rfl) (fun W hSw => by go_simp) B2 ?_
      simp only [Act.put, List.setIfInBounds_toArray, List.set_cons_zero, List.set_cons_succ]
      refine take_at 15 (some 64) (.int .i64 0) rfl rfl (by kernel_rfl) (by kernel_rfl) (by kernel_rfl) (fun _ _ _ h => h) (by rfl) (fun W hSw => by go_simp) B2 ?_
      simp only [Act.put, List.setIfInBounds_toArray, List.set_cons_zero, List.set_cons_succ]
      refine wpAnyH_ready (rs := [2]) (by kernel_rfl) (by simp) ?_
      refine AllReadyH.cons rfl (fun K hK => ?_) AllReadyH.nil
      go_simp
      refine (c7 _).mono ?_
      rintro e w11 ⟨rfl, hb11⟩
      have B11 := Below.chain B2 hb11
      refine hK.out _ _ ?_ (fun _ => ?_)
      · exact B11
      clear hK K
      refine wpAnyH_ready (rs := [5]) (by kernel_rfl) (by simp) ?_
      refine AllReadyH.cons rfl (fun K hK => ?_) AllReadyH.nil
      go_simp
      refine (c8 _).mono ?_
      rintro e w12 ⟨rfl, hb12⟩
      have B12 := Below.chain B11 hb12
      refine hK.out _ _ ?_ (fun _ => ?_)
      · exact B12
      clear hK K
      refine wpAnyH_ready (rs := [8]) (by kernel_rfl) (by simp) ?_
      refine AllReadyH.cons rfl (fun K hK => ?_) AllReadyH.nil
      go_simp
      refine (c9 _).mono ?_
      rintro e w13 ⟨rfl, hb13⟩
      have B13 := Below.chain B12 hb13
      refine hK.out _ _ ?_ (fun _ => ?_)
      · exact B13
      clear hK K
      refine wpAnyH_ready (rs := [11]) (by kernel_rfl) (by simp) ?_
      refine AllReadyH.cons rfl (fun K hK => ?_) AllReadyH.nil
      go_simp
      refine (c10 _).mono ?_
      rintro e w14 ⟨rfl, hb14⟩
      have B14 := Below.chain B13 hb14
      refine hK.out _ _ ?_ (fun _ => ?_)
      · exact B14
      clear hK K
      refine wpAnyH_ready (rs := [13]) (by kernel_rfl) (by simp) ?_
      refine AllReadyH.cons rfl (fun K hK => ?_) AllReadyH.nil
      go_simp
      refine (c11 _).mono ?_
      rintro e w15 ⟨rfl, hb15⟩
      have B15 := Below.chain B14 hb15
      refine hK.out _ _ ?_ (fun _ => ?_)
      · exact B15
      clear hK K
      refine take_at 14 (some 63) (.agg #[.bool true, .int .i64 0, .bool true, .int .i64 0, .bool true, .int .i64 0, .bool true, .int .i64 0, .bool true, .int .i64 0]) rfl rfl (by kernel_rfl) (by kernel_rfl) (by kernel_rfl) (fun _ _ _ h => h) (by rfl) (fun W hSw => by go_simp) B15 ?_
      simp only [Act.put, List.setIfInBounds_toArray, List.set_cons_zero, List.set_cons_succ]
      refine wpAnyH_done (by kernel_rfl) ?_ _
      refine NoPanic.normal ?_
      go_wp2_with fail
      go_meet
      exact ⟨rfl, rfl, hx.later B15, h5.later B15, h6.later B15, h7.later B15, Below.chain hb B15⟩
    case rest =>
      clear hx h5 h6 h7 hb
      obtain ⟨rfl, rfl, hx, h5, h6, h7, hb⟩ := hcut
      go_wp2_with fail
      go_loopw [64] (fun i wx => ∃ j : Nat, j ≤ 5 ∧ i = .int .i64 j ∧ Box wx w.heap.size o n ∧ Box wx wk.heap.size false 9223372036854775807 ∧ Box wx (wk.heap.size + 1) false d ∧ Box wx (wk.heap.size + 1 + 1) true 0 ∧ Below w.heap.size w wx) (fun i _ => 5 - (intOf i).toNat)
      case atStart => exact ⟨0, by omega, rfl, hx, h5, h6, h7, hb⟩
      case round =>
        clear hx h5 h6 h7 hb
        obtain ⟨j, hj, rfl, hx, h5, h6, h7, hb⟩ := hrel
        by_cases hlt : j < 5
        · have g7 := h7.later (bal (Below.refl _ wr) (.cells #[.bool true, .int .i64 0] 24))
          have A9 := bal (Below.refl _ wr) (.cells #[.bool true, .int .i64 0] 24)
          have h9 := Box.new wr true 0
          obtain ⟨c0, c1, _, _⟩ := id g7
          obtain ⟨d0, d1, _, _⟩ := id h9
          obtain rfl | rfl | rfl | rfl | rfl : j = 0 ∨ j = 1 ∨ j = 2 ∨ j = 3 ∨ j = 4 := by omega
          · go_wp2_with fail
            go_roundw
            case rel => exact ⟨1, by omega, rfl, hx.later A9, h5.later A9, h6.later A9, g7, Below.chain hb A9⟩
            case measure => simp [intOf]
          · go_wp2_with fail
            go_roundw
            case rel => exact ⟨2, by omega, rfl, hx.later A9, h5.later A9, h6.later A9, g7, Below.chain hb A9⟩
            case measure => simp [intOf]
          · go_wp2_with fail
            go_roundw
            case rel => exact ⟨3, by omega, rfl, hx.later A9, h5.later A9, h6.later A9, g7, Below.chain hb A9⟩
            case measure => simp [intOf]
          · go_wp2_with fail
            go_roundw
            case rel => exact ⟨4, by omega, rfl, hx.later A9, h5.later A9, h6.later A9, g7, Below.chain hb A9⟩
            case measure => simp [intOf]
          · go_wp2_with fail
            go_roundw
            case rel => exact ⟨5, by omega, rfl, hx.later A9, h5.later A9, h6.later A9, g7, Below.chain hb A9⟩
            case measure => simp [intOf]
        · obtain rfl : j = 5 := by omega
          go_upto_region 14 with fail
          generalize wr = w1 at *
          have m0 := hx.at0
          have m1 := hx.at1
          have m2 := h5.at0
          have m3 := h5.at1
          have m4 := h6.at0
          have m5 := h6.at1
          have m6 := h7.at0
          have m7 := h7.at1
          refine wp_region_noPanic ?_
          refine wp_region_held_drew (S := fun W => Below w1.heap.size w1 W) (by kernel_rfl) ?_ (fun _ => ?_)
          · exact (Below.refl _ _).drew
          have B2 : Below w1.heap.size w1 w1.drew := (Below.refl _ _).drew
          generalize w1.drew = w2 at *
          refine take_at 0 (some 71) (.agg #[.bool false, .int .i64 9223372036854775807]) rfl rfl (by kernel_rfl) (by kernel_rfl) (by kernel_rfl) (fun _ _ _ h => h) (by rfl) (fun W hSw => by go_simp) B2 ?_
          simp only [Act.put, List.setIfInBounds_toArray, List.set_cons_zero, List.set_cons_succ]
          refine take_at 1 (some 72) (.agg #[.bool false, .int .i64 d]) rfl rfl (by kernel_rfl) (by kernel_rfl) (by kernel_rfl) (fun _ _ _ h => h) (by rfl) (fun W hSw => by go_simp) B2 ?_
          simp only [Act.put, List.setIfInBounds_toArray, List.set_cons_zero, List.set_cons_succ]
          refine take_at 2 (some 73) (.agg #[.bool false, .int .i64 9223372036854775807]) rfl rfl (by kernel_rfl) (by kernel_rfl) (by kernel_rfl) (fun _ _ _ h => h) (by rfl) (fun W hSw => by go_simp) B2 ?_
          simp only [Act.put, List.setIfInBounds_toArray, List.set_cons_zero, List.set_cons_succ]
          refine take_at 6 (some 77) (.agg #[.bool false, .int .i64 d]) rfl rfl (by kernel_rfl) (by kernel_rfl) (by kernel_rfl) (fun _ _ _ h => h) (by rfl) (fun W hSw => by go_simp) B2 ?_
          simp only [Act.put, List.setIfInBounds_toArray, List.set_cons_zero, List.set_cons_succ]
          refine wpAnyH_ready (rs := [3]) (by kernel_rfl) (by simp) ?_
          refine AllReadyH.cons rfl (fun K hK => ?_) AllReadyH.nil
          go_simp
          refine (c2 _).mono ?_
          rintro e w11 ⟨rfl, hb11⟩
          have B11 := Below.chain B2 hb11
          refine hK.out _ _ ?_ (fun _ => ?_)
          · exact B11
          clear hK K
          refine wpAnyH_ready (rs := [4]) (by kernel_rfl) (by simp) ?_
          refine AllReadyH.cons rfl (fun K hK => ?_) AllReadyH.nil
          go_simp
          have sl12 := Ns.three w11 (false) (false) (false) (9223372036854775807) (d) ((-9223372036854775807))
          have E12 := bal (Below.refl _ w11) (.cells #[.bool false, .int .i64 9223372036854775807, .bool false, .int .i64 d, .bool false, .int .i64 (-9223372036854775807)] 24)
          have B12 := Below.chain B11 E12
          refine hK.out _ _ ?_ (fun _ => ?_)
          · exact B12
          clear hK K
          generalize w11.alloc (.cells #[.bool false, .int .i64 9223372036854775807, .bool false, .int .i64 d, .bool false, .int .i64 (-9223372036854775807)] 24) = w12 at *
          refine wpAnyH_ready (rs := [5]) (by kernel_rfl) (by simp) ?_
          refine AllReadyH.cons rfl (fun K hK => ?_) AllReadyH.nil
          go_simp
          refine (hS3 _ _ sl12).mono ?_
          rintro e w13 ⟨rfl, hb13⟩
          have B13 := Below.chain B12 hb13
          have sl12_13 := sl12.later hb13
          refine hK.out _ _ ?_ (fun _ => ?_)
          · exact B13
          clear hK K
          refine take_at 7 (some 78) (.bool true) rfl rfl (by kernel_rfl) (by kernel_rfl) (by kernel_rfl) (fun _ _ _ h => h) (by rfl) (fun W hSw => by go_simp) B13 ?_
          simp only [Act.put, List.setIfInBounds_toArray, List.set_cons_zero, List.set_cons_succ]
          refine take_at 8 (some 79) (.bool true) rfl rfl (by kernel_rfl) (by kernel_rfl) (by kernel_rfl) (fun _ _ _ h => h) (by rfl) (fun W hSw => by go_simp) B13 ?_
          simp only [Act.put, List.setIfInBounds_toArray, List.set_cons_zero, List.set_cons_succ]
          refine take_at 9 (some 80) (.agg #[.bool false, .int .i64 9223372036854775807]) rfl rfl (by kernel_rfl) (by kernel_rfl) (by kernel_rfl) (fun _ _ _ h => h) (by rfl) (fun W hSw => by go_simp) B13 ?_
          simp only [Act.put, List.setIfInBounds_toArray, List.set_cons_zero, List.set_cons_succ]
          refine take_at 12 (some 83) (.agg #[.bool true, .int .i64 0]) rfl rfl (by kernel_rfl) (by kernel_rfl) (by kernel_rfl) (fun _ _ _ h => h) (by rfl) (fun W hSw => by go_simp) B13 ?_
          simp only [Act.put, List.setIfInBounds_toArray, List.set_cons_zero, List.set_cons_succ]
          refine wpAnyH_ready (rs := [10]) (by kernel_rfl) (by simp) ?_
          refine AllReadyH.cons rfl (fun K hK => ?_) AllReadyH.nil
          go_simp
          refine (c12 _).mono ?_
          rintro e w14 ⟨rfl, hb14⟩
          have B14 := Below.chain B13 hb14
          have sl12_13_14 := sl12_13.later hb14
          refine hK.out _ _ ?_ (fun _ => ?_)
          · exact B14
          clear hK K
          refine wpAnyH_ready (rs := [11]) (by kernel_rfl) (by simp) ?_
          refine AllReadyH.cons rfl (fun K hK => ?_) AllReadyH.nil
          go_simp
          refine (c13 _).mono ?_
          rintro e w15 ⟨rfl, hb15⟩
          have B15 := Below.chain B14 hb15
          have sl12_13_14_15 := sl12_13_14.later hb15
          refine hK.out _ _ ?_ (fun _ => ?_)
          · exact B15
          clear hK K
          refine take_at 13 (some 84) (.bool true) rfl rfl (by kernel_rfl) (by kernel_rfl) (by kernel_rfl) (fun _ _ _ h => h) (by rfl) (fun W hSw => by go_simp) B15 ?_
          simp only [Act.put, List.setIfInBounds_toArray, List.set_cons_zero, List.set_cons_succ]
          refine take_at 14 (some 85) (.bool true) rfl rfl (by kernel_rfl) (by kernel_rfl) (by kernel_rfl) (fun _ _ _ h => h) (by rfl) (fun W hSw => by go_simp) B15 ?_
          simp only [Act.put, List.setIfInBounds_toArray, List.set_cons_zero, List.set_cons_succ]
          refine take_at 15 (some 86) (.bool true) rfl rfl (by kernel_rfl) (by kernel_rfl) (by kernel_rfl) (fun _ _ _ h => h) (by rfl) (fun W hSw => by go_simp) B15 ?_
          simp only [Act.put, List.setIfInBounds_toArray, List.set_cons_zero, List.set_cons_succ]
          refine take_at 16 (some 87) (.agg #[.bool false, .int .i64 9223372036854775807]) rfl rfl (by kernel_rfl) (by kernel_rfl) (by kernel_rfl) (fun _ _ _ h => h) (by rfl) (fun W hSw => by go_simp) B15 ?_
          simp only [Act.put, List.setIfInBounds_toArray, List.set_cons_zero, List.set_cons_succ]
          refine take_at 17 (some 88) (.agg #[.bool false, .int .i64 500000]) rfl rfl (by kernel_rfl) (by kernel_rfl) (by kernel_rfl) (fun _ _ _ h => h) (by rfl) (fun W hSw => by go_simp) B15 ?_
          simp only [Act.put, List.setIfInBounds_toArray, List.set_cons_zero, List.set_cons_succ]
          refine take_at 19 (some 90) (.agg #[.bool true, .int .i64 0]) rfl rfl (by kernel_rfl) (by kernel_rfl) (by kernel_rfl) (fun _ _ _ h => h) (by rfl) (fun W hSw => by go_simp) B15 ?_
          simp only [Act.put, List.setIfInBounds_toArray, List.set_cons_zero, List.set_cons_succ]
          refine wpAnyH_ready (rs := [18]) (by kernel_rfl) (by simp) ?_
          refine AllReadyH.cons rfl (fun K hK => ?_) AllReadyH.nil
          go_simp
          refine (c14 _).mono ?_
          rintro e w16 ⟨rfl, hb16⟩
          have B16 := Below.chain B15 hb16
          have sl12_13_14_15_16 := sl12_13_14_15.later hb16
          refine hK.out _ _ ?_ (fun _ => ?_)
          · exact B16
          clear hK K
          refine take_at 20 (some 91) (.bool true) rfl rfl (by kernel_rfl) (by kernel_rfl) (by kernel_rfl) (fun _ _ _ h => h) (by rfl) (fun W hSw => by go_simp) B16 ?_
          simp only [Act.put, List.setIfInBounds_toArray, List.set_cons_zero, List.set_cons_succ]
          refine take_at 21 (some 92) (.bool true) rfl rfl (by kernel_rfl) (by kernel_rfl) (by kernel_rfl) (fun _ _ _ h => h) (by rfl) (fun W hSw => by go_simp) B16 ?_
          simp only [Act.put, List.setIfInBounds_toArray, List.set_cons_zero, List.set_cons_succ]
          refine take_at 22 (some 4) (.bool true) rfl rfl (by kernel_rfl) (by kernel_rfl) (by kernel_rfl) (fun _ _ _ h => h) (by rfl) (fun W hSw => by go_simp) B16 ?_
          simp only [Act.put, List.setIfInBounds_toArray, List.set_cons_zero, List.set_cons_succ]
          refine wpAnyH_done (by kernel_rfl) ?_ _
          refine NoPanic.normal ?_
          go_wp2
          go_ret
          exact ⟨rfl, Below.chain hb B16⟩
set_option maxRecDepth 20000 in
set_option maxHeartbeats 8000000 in
theorem edges_zero (o : Bool) (n : Int) (hn : R64 n) (w : World) (ht : Tab Tryd.prog w) :
    Calls Tryd.prog 3 #[.int .u32 0, .agg #[.bool o, .int .i64 n]] w fun e w' => e = .returned (.bool true) ∧ Below w.heap.size w w' := by
  have hfd := field_ovf
  have hi0 := five0
  have hi1 := five1
  have hi2 := five2
  have hi3 := five3
  have hi4 := five4
  have hx0 := Box.new w o n
  have hb0 : Below w.heap.size w (w.alloc (.cells #[.bool o, .int .i64 n] 24)) := bal (Below.refl _ _) _


  have c1 : ∀ w, Calls Tryd.prog 6 #[.agg #[.bool false, .int .i64 9223372036854775807], .agg #[.bool false, .int .i64 0]] w fun e w' => e = .returned (.agg #[.bool false, .int .i64 9223372036854775807]) ∧ Below w.heap.size w w' := fun w => by have h := add_any false false 9223372036854775807 0 w ⟨by decide, by decide⟩ ⟨by decide, by decide⟩; rw [e_add0] at h; exact h
  have c2 : ∀ w, Calls Tryd.prog 8 #[.agg #[.bool false, .int .i64 9223372036854775807]] w fun e w' => e = .returned (.agg #[.bool false, .int .i64 (-9223372036854775807)]) ∧ Below w.heap.size w w' := fun w => by have h := neg_any false 9223372036854775807 w (by decide) (by decide); rw [e_neg] at h; exact h
  have c3 : ∀ w, Calls Tryd.prog 7 #[.agg #[.bool false, .int .i64 (-9223372036854775807)], .agg #[.bool false, .int .i64 0]] w fun e w' => e = .returned (.agg #[.bool false, .int .i64 (-9223372036854775807)]) ∧ Below w.heap.size w w' := fun w => by have h := sub_any false false (-9223372036854775807) 0 w ⟨by decide, by decide⟩ ⟨by decide, by decide⟩; rw [e_sub0] at h; exact h
  have c4 : ∀ w, Calls Tryd.prog 7 #[.agg #[.bool false, .int .i64 9223372036854775807], .agg #[.bool false, .int .i64 0]] w fun e w' => e = .returned (.agg #[.bool false, .int .i64 9223372036854775807]) ∧ Below w.heap.size w w' := fun w => by have h := sub_any false false 9223372036854775807 0 w ⟨by decide, by decide⟩ ⟨by decide, by decide⟩; rw [e_dif0] at h; exact h
  have c5 : ∀ w, Calls Tryd.prog 9 #[.agg #[.bool false, .int .i64 9223372036854775807]] w fun e w' => e = .returned (.bool true) ∧ Below w.heap.size w w' := fun w => by have h := is_any false 9223372036854775807 w; rw [e_is] at h; exact h
  have c6 : ∀ w, Calls Tryd.prog 9 #[.agg #[.bool false, .int .i64 (-9223372036854775808)]] w fun e w' => e = .returned (.bool false) ∧ Below w.heap.size w w' := fun w => by have h := is_any false (-9223372036854775808) w; rw [e_isnt] at h; exact h
  have c7 : ∀ w, Calls Tryd.prog 6 #[.agg #[.bool true, .int .i64 0], .agg #[.bool o, .int .i64 n]] w fun e w' => e = .returned (.agg #[.bool true, .int .i64 0]) ∧ Below w.heap.size w w' := fun w => by have h := add_any true o 0 n w ⟨by decide, by decide⟩ hn; rw [show cnt true 0 = none from rfl, show ∀ x, fAdd none x = none from fun _ => rfl] at h; exact h
  have c8 : ∀ w, Calls Tryd.prog 7 #[.agg #[.bool o, .int .i64 n], .agg #[.bool true, .int .i64 0]] w fun e w' => e = .returned (.agg #[.bool true, .int .i64 0]) ∧ Below w.heap.size w w' := fun w => by have h := sub_any o true n 0 w hn ⟨by decide, by decide⟩; rw [show cnt true 0 = none from rfl, show ∀ x, fAdd x (fNeg none) = none from fun x => by cases x <;> rfl] at h; exact h
  have c9 : ∀ w, Calls Tryd.prog 10 #[.agg #[.bool true, .int .i64 0], .agg #[.bool o, .int .i64 n]] w fun e w' => e = .returned (.agg #[.bool true, .int .i64 0]) ∧ Below w.heap.size w w' := fun w => by have h := mul_any true o 0 n w ⟨by decide, by decide⟩ hn; rw [show cnt true 0 = none from rfl, show ∀ x, fMul none x = none from fun _ => rfl] at h; exact h
  have c10 : ∀ w, Calls Tryd.prog 11 #[.agg #[.bool o, .int .i64 n], .agg #[.bool true, .int .i64 0]] w fun e w' => e = .returned (.agg #[.bool true, .int .i64 0]) ∧ Below w.heap.size w w' := fun w => by have h := quo_any o true n 0 w hn ⟨by decide, by decide⟩; rw [show cnt true 0 = none from rfl, show ∀ x, fDiv x none = none from fun x => by cases x <;> rfl] at h; exact h
  have c11 : ∀ w, Calls Tryd.prog 8 #[.agg #[.bool true, .int .i64 0]] w fun e w' => e = .returned (.agg #[.bool true, .int .i64 0]) ∧ Below w.heap.size w w' := fun w => by have h := neg_any true 0 w (by decide) (by decide); exact h
  have c12 : ∀ w, Calls Tryd.prog 13 #[.int .i64 2] w fun e w' => e = .returned (.agg #[.bool false, .int .i64 2000000]) ∧ Below w.heap.size w w' := fun w => by have h := of_any 2 w ⟨by decide, by decide⟩; rw [e_of2] at h; exact h
  have c13 : ∀ w, Calls Tryd.prog 10 #[.agg #[.bool false, .int .i64 9223372036854775807], .agg #[.bool false, .int .i64 2000000]] w fun e w' => e = .returned (.agg #[.bool true, .int .i64 0]) ∧ Below w.heap.size w w' := fun w => by have h := mul_any false false 9223372036854775807 2000000 w ⟨by decide, by decide⟩ ⟨by decide, by decide⟩; rw [e_mul] at h; exact h
  have c14 : ∀ w, Calls Tryd.prog 11 #[.agg #[.bool false, .int .i64 9223372036854775807], .agg #[.bool false, .int .i64 500000]] w fun e w' => e = .returned (.agg #[.bool true, .int .i64 0]) ∧ Below w.heap.size w w' := fun w => by have h := quo_any false false 9223372036854775807 500000 w ⟨by decide, by decide⟩ ⟨by decide, by decide⟩; rw [e_quo] at h; exact h
  have hS3 : ∀ (W : World) (b : Nat), Ns W (some ⟨b, 0, none⟩) 3 [(false, 9223372036854775807), (false, 0), (false, -9223372036854775807)] → Calls Tryd.prog 12 #[.slice (some ⟨b, 0, none⟩) 3 3] W fun e w' => e = .returned (.agg #[.bool false, .int .i64 0]) ∧ Below W.heap.size W w' := fun W b h => by have h := sum_any _ 3 3 _ W (by omega) h (mem3 ⟨by decide, by decide⟩ ⟨by decide, by decide⟩ ⟨by decide, by decide⟩); rw [e_sum0] at h; exact h
  go_enter Tryd.func3, Tryd.ntmps3
  go_wp2_with fail
  generalize w.alloc (.cells #[.bool o, .int .i64 n] 24) = w0 at *
  refine (known_any _ (ht.later hb0)).mono ?_
  rintro e wk ⟨rfl, hbk⟩
  obtain ⟨h5', h6', h7'', hb5⟩ := boxes3 wk false false true 9223372036854775807 0 0
  have h7' : Box _ (wk.heap.size + 1 + 1) true 0 := h7''
  clear h7''
  have hx := (hx0.later hbk).later hb5
  have hb := Below.chain (Below.chain hb0 hbk) hb5
  have h5 := h5'
  have h6 := h6'
  have h7 := h7'
  clear h5' h6' h7' hx0
  go_upto_region 6 with fail
  generalize ((wk.alloc (.cells #[.bool false, .int .i64 9223372036854775807] 24)).alloc (.cells #[.bool false, .int .i64 0] 24)).alloc (.cells #[.bool true, .int .i64 0] 24) = w1 at *
  go_cut [48] from 17 to 47 (fun a wx => a = .bool false ∧ Box wx w.heap.size o n ∧ Box wx wk.heap.size false 9223372036854775807 ∧ Box wx (wk.heap.size + 1) false 0 ∧ Box wx (wk.heap.size + 1 + 1) true 0 ∧ Below w.heap.size w wx)
  case first =>
    have m0 := hx.at0
    have m1 := hx.at1
    have m2 := h5.at0
    have m3 := h5.at1
    have m4 := h6.at0
    have m5 := h6.at1
    have m6 := h7.at0
    have m7 := h7.at1
    refine wp_region_noPanic ?_
    refine wp_region_held_drew (S := fun W => Below w1.heap.size w1 W) (by kernel_rfl) ?_ (fun _ => ?_)
    · exact (Below.refl _ _).drew
    have B2 : Below w1.heap.size w1 w1.drew := (Below.refl _ _).drew
    generalize w1.drew = w2 at *
    refine take_at 0 (some 17) (.agg #[.bool false, .int .i64 9223372036854775807]) rfl rfl (by kernel_rfl) (by kernel_rfl) (by kernel_rfl) (fun _ _ _ h => h) (by rfl) (fun W hSw => by go_simp) B2 ?_
    simp only [Act.put, List.setIfInBounds_toArray, List.set_cons_zero, List.set_cons_succ]
    refine take_at 1 (some 18) (.agg #[.bool false, .int .i64 0]) rfl rfl (by kernel_rfl) (by kernel_rfl) (by kernel_rfl) (fun _ _ _ h => h) (by rfl) (fun W hSw => by go_simp) B2 ?_
    simp only [Act.put, List.setIfInBounds_toArray, List.set_cons_zero, List.set_cons_succ]
    refine take_at 4 (some 21) (.int .u32 0) rfl rfl (by kernel_rfl) (by kernel_rfl) (by kernel_rfl) (fun _ _ _ h => h) (by rfl) (fun W hSw => by go_simp) B2 ?_
    simp only [Act.put, List.setIfInBounds_toArray, List.set_cons_zero, List.set_cons_succ]
    refine take_at 5 (some 22) (.bool false) rfl rfl (by kernel_rfl) (by kernel_rfl) (by kernel_rfl) (fun _ _ _ h => h) (by rfl) (fun W hSw => by go_simp) B2 ?_
    simp only [Act.put, List.setIfInBounds_toArray, List.set_cons_zero, List.set_cons_succ]
    refine wpAnyH_ready (rs := [2]) (by kernel_rfl) (by simp) ?_
    refine AllReadyH.cons rfl (fun K hK => ?_) AllReadyH.nil
    go_simp
    refine (c1 _).mono ?_
    rintro e w11 ⟨rfl, hb11⟩
    have B11 := Below.chain B2 hb11
    refine hK.out _ _ ?_ (fun _ => ?_)
    · exact B11
    clear hK K
    refine take_at 3 (some 20) (.bool false) rfl rfl (by kernel_rfl) (by kernel_rfl) (by kernel_rfl) (fun _ _ _ h => h) (by rfl) (fun W hSw => by go_simp) B11 ?_
    simp only [Act.put, List.setIfInBounds_toArray, List.set_cons_zero, List.set_cons_succ]
    refine take_at 6 (some 23) (.bool false) rfl rfl (by kernel_rfl) (by kernel_rfl) (by kernel_rfl) (fun _ _ _ h => h) (by rfl) (fun W hSw => by go_simp) B11 ?_
    simp only [Act.put, List.setIfInBounds_toArray, List.set_cons_zero, List.set_cons_succ]
    refine take_at 7 (some 24) (.bool false) rfl rfl (by kernel_rfl) (by kernel_rfl) (by kernel_rfl) (fun _ _ _ h => h) (by rfl) (fun W hSw => by go_simp) B11 ?_
    simp only [Act.put, List.setIfInBounds_toArray, List.set_cons_zero, List.set_cons_succ]
    refine take_at 8 (some 25) (.agg #[.bool false, .int .i64 9223372036854775807]) rfl rfl (by kernel_rfl) (by kernel_rfl) (by kernel_rfl) (fun _ _ _ h => h) (by rfl) (fun W hSw => by go_simp) B11 ?_
    simp only [Act.put, List.setIfInBounds_toArray, List.set_cons_zero, List.set_cons_succ]
    refine take_at 10 (some 27) (.agg #[.bool false, .int .i64 0]) rfl rfl (by kernel_rfl) (by kernel_rfl) (by kernel_rfl) (fun _ _ _ h => h) (by rfl) (fun W hSw => by go_simp) B11 ?_
    simp only [Act.put, List.setIfInBounds_toArray, List.set_cons_zero, List.set_cons_succ]
    refine take_at 13 (some 30) (.int .u32 0) rfl rfl (by kernel_rfl) (by kernel_rfl) (by kernel_rfl) (fun _ _ _ h => h) (by rfl) (fun W hSw => by go_simp) B11 ?_
    simp only [Act.put, List.setIfInBounds_toArray, List.set_cons_zero, List.set_cons_succ]
    refine take_at 14 (some 31) (.bool false) rfl rfl (by kernel_rfl) (by kernel_rfl) (by kernel_rfl) (fun _ _ _ h => h) (by rfl) (fun W hSw => by go_simp) B11 ?_
    simp only [Act.put, List.setIfInBounds_toArray, List.set_cons_zero, List.set_cons_succ]
    refine wpAnyH_ready (rs := [9]) (by kernel_rfl) (by simp) ?_
    refine AllReadyH.cons rfl (fun K hK => ?_) AllReadyH.nil
    go_simp
    refine (c2 _).mono ?_
    rintro e w12 ⟨rfl, hb12⟩
    have B12 := Below.chain B11 hb12
    refine hK.out _ _ ?_ (fun _ => ?_)
    · exact B12
    clear hK K
    refine wpAnyH_ready (rs := [11]) (by kernel_rfl) (by simp) ?_
    refine AllReadyH.cons rfl (fun K hK => ?_) AllReadyH.nil
    go_simp
    refine (c3 _).mono ?_
    rintro e w13 ⟨rfl, hb13⟩
    have B13 := Below.chain B12 hb13
    refine hK.out _ _ ?_ (fun _ => ?_)
    · exact B13
    clear hK K
    refine take_at 12 (some 29) (.bool false) rfl rfl (by kernel_rfl) (by kernel_rfl) (by kernel_rfl) (fun _ _ _ h => h) (by rfl) (fun W hSw => by go_simp) B13 ?_
    simp only [Act.put, List.setIfInBounds_toArray, List.set_cons_zero, List.set_cons_succ]
    refine take_at 15 (some 32) (.bool false) rfl rfl (by kernel_rfl) (by kernel_rfl) (by kernel_rfl) (fun _ _ _ h => h) (by rfl) (fun W hSw => by go_simp) B13 ?_
    simp only [Act.put, List.setIfInBounds_toArray, List.set_cons_zero, List.set_cons_succ]
    refine take_at 16 (some 33) (.bool false) rfl rfl (by kernel_rfl) (by kernel_rfl) (by kernel_rfl) (fun _ _ _ h => h) (by rfl) (fun W hSw => by go_simp) B13 ?_
    simp only [Act.put, List.setIfInBounds_toArray, List.set_cons_zero, List.set_cons_succ]
    refine take_at 17 (some 34) (.bool false) rfl rfl (by kernel_rfl) (by kernel_rfl) (by kernel_rfl) (fun _ _ _ h => h) (by rfl) (fun W hSw => by go_simp) B13 ?_
    simp only [Act.put, List.setIfInBounds_toArray, List.set_cons_zero, List.set_cons_succ]
    refine take_at 18 (some 35) (.agg #[.bool false, .int .i64 9223372036854775807]) rfl rfl (by kernel_rfl) (by kernel_rfl) (by kernel_rfl) (fun _ _ _ h => h) (by rfl) (fun W hSw => by go_simp) B13 ?_
    simp only [Act.put, List.setIfInBounds_toArray, List.set_cons_zero, List.set_cons_succ]
    refine take_at 19 (some 36) (.agg #[.bool false, .int .i64 0]) rfl rfl (by kernel_rfl) (by kernel_rfl) (by kernel_rfl) (fun _ _ _ h => h) (by rfl) (fun W hSw => by go_simp) B13 ?_
    simp only [Act.put, List.setIfInBounds_toArray, List.set_cons_zero, List.set_cons_succ]
    refine wpAnyH_ready (rs := [20]) (by kernel_rfl) (by simp) ?_
    refine AllReadyH.cons rfl (fun K hK => ?_) AllReadyH.nil
    go_simp
    refine (c4 _).mono ?_
    rintro e w14 ⟨rfl, hb14⟩
    have B14 := Below.chain B13 hb14
    refine hK.out _ _ ?_ (fun _ => ?_)
    · exact B14
    clear hK K
    refine take_at 21 (some 38) (.bool false) rfl rfl (by kernel_rfl) (by kernel_rfl) (by kernel_rfl) (fun _ _ _ h => h) (by rfl) (fun W hSw => by go_simp) B14 ?_
    simp only [Act.put, List.setIfInBounds_toArray, List.set_cons_zero, List.set_cons_succ]
    refine take_at 22 (some 39) (.bool false) rfl rfl (by kernel_rfl) (by kernel_rfl) (by kernel_rfl) (fun _ _ _ h => h) (by rfl) (fun W hSw => by go_simp) B14 ?_
    simp only [Act.put, List.setIfInBounds_toArray, List.set_cons_zero, List.set_cons_succ]
    refine take_at 23 (some 40) (.bool false) rfl rfl (by kernel_rfl) (by kernel_rfl) (by kernel_rfl) (fun _ _ _ h => h) (by rfl) (fun W hSw => by go_simp) B14 ?_
    simp only [Act.put, List.setIfInBounds_toArray, List.set_cons_zero, List.set_cons_succ]
    refine take_at 24 (some 41) (.agg #[.bool false, .int .i64 9223372036854775807]) rfl rfl (by kernel_rfl) (by kernel_rfl) (by kernel_rfl) (fun _ _ _ h => h) (by rfl) (fun W hSw => by go_simp) B14 ?_
    simp only [Act.put, List.setIfInBounds_toArray, List.set_cons_zero, List.set_cons_succ]
    refine wpAnyH_ready (rs := [25]) (by kernel_rfl) (by simp) ?_
    refine AllReadyH.cons rfl (fun K hK => ?_) AllReadyH.nil
    go_simp
    refine (c5 _).mono ?_
    rintro e w15 ⟨rfl, hb15⟩
    have B15 := Below.chain B14 hb15
    refine hK.out _ _ ?_ (fun _ => ?_)
    · exact B15
    clear hK K
    refine take_at 26 (some 43) (.bool false) rfl rfl (by kernel_rfl) (by kernel_rfl) (by kernel_rfl) (fun _ _ _ h => h) (by rfl) (fun W hSw => by go_simp) B15 ?_
    simp only [Act.put, List.setIfInBounds_toArray, List.set_cons_zero, List.set_cons_succ]
    refine take_at 27 (some 44) (.bool false) rfl rfl (by kernel_rfl) (by kernel_rfl) (by kernel_rfl) (fun _ _ _ h => h) (by rfl) (fun W hSw => by go_simp) B15 ?_
    simp only [Act.put, List.setIfInBounds_toArray, List.set_cons_zero, List.set_cons_succ]
    refine take_at 28 (some 45) (.bool false) rfl rfl (by kernel_rfl) (by kernel_rfl) (by kernel_rfl) (fun _ _ _ h => h) (by rfl) (fun W hSw => by go_simp) B15 ?_
    simp only [Act.put, List.setIfInBounds_toArray, List.set_cons_zero, List.set_cons_succ]
    refine take_at 29 (some 46) (.agg #[.bool false, .int .i64 (-9223372036854775808)]) rfl rfl (by kernel_rfl) (by kernel_rfl) (by kernel_rfl) (fun _ _ _ h => h) (by rfl) (fun W hSw => by go_simp) B15 ?_
    simp only [Act.put, List.setIfInBounds_toArray, List.set_cons_zero, List.set_cons_succ]
    refine wpAnyH_ready (rs := [30]) (by kernel_rfl) (by simp) ?_
    refine AllReadyH.cons rfl (fun K hK => ?_) AllReadyH.nil
    go_simp
    refine (c6 _).mono ?_
    rintro e w16 ⟨rfl, hb16⟩
    have B16 := Below.chain B15 hb16
    refine hK.out _ _ ?_ (fun _ => ?_)
    · exact B16
    clear hK K
    refine take_at 31 (some 48) (.bool false) rfl rfl (by kernel_rfl) (by kernel_rfl) (by kernel_rfl) (fun _ _ _ h => h) (by rfl) (fun W hSw => by go_simp) B16 ?_
    simp only [Act.put, List.setIfInBounds_toArray, List.set_cons_zero, List.set_cons_succ]
    refine wpAnyH_done (by kernel_rfl) ?_ _
    refine NoPanic.normal ?_
    go_wp2_with fail
    go_meet
    exact ⟨rfl, hx.later B16, h5.later B16, h6.later B16, h7.later B16, Below.chain hb B16⟩
  case rest =>
    clear hx h5 h6 h7 hb hb5
    obtain ⟨rfl, hx, h5, h6, h7, hb⟩ := hcut
    go_upto_region 8 with fail
    generalize wc = w1 at *
    go_cut [63, 64] from 49 to 62 (fun a i wx => a = .agg #[.bool true, .int .i64 0, .bool true, .int .i64 0, .bool true, .int .i64 0, .bool true, .int .i64 0, .bool true, .int .i64 0] ∧ i = .int .i64 0 ∧ Box wx w.heap.size o n ∧ Box wx wk.heap.size false 9223372036854775807 ∧ Box wx (wk.heap.size + 1) false 0 ∧ Box wx (wk.heap.size + 1 + 1) true 0 ∧ Below w.heap.size w wx)
    case first =>
      have m0 := hx.at0
      have m1 := hx.at1
      have m2 := h5.at0
      have m3 := h5.at1
      have m4 := h6.at0
      have m5 := h6.at1
      have m6 := h7.at0
      have m7 := h7.at1
      refine wp_region_noPanic ?_
      refine wp_region_held_drew (S := fun W => Below w1.heap.size w1 W) (by kernel_rfl) ?_ (fun _ => ?_)
      · exact (Below.refl _ _).drew
      have B2 : Below w1.heap.size w1 w1.drew := (Below.refl _ _).drew
      generalize w1.drew = w2 at *
      refine take_at 0 (some 49) (.agg #[.bool true, .int .i64 0]) rfl rfl (by kernel_rfl) (by kernel_rfl) (by kernel_rfl) (fun _ _ _ h => h) (by rfl) (fun W hSw => by go_simp) B2 ?_
      simp only [Act.put, List.setIfInBounds_toArray, List.set_cons_zero, List.set_cons_succ]
      refine take_at 1 (some 50) (.agg #[.bool o, .int .i64 n]) rfl rfl (by kernel_rfl) (by kernel_rfl) (by kernel_rfl) (fun _ _ _ h => h) (by rfl) (fun W hSw => by go_simp) B2 ?_
      simp only [Act.put, List.setIfInBounds_toArray, List.set_cons_zero, List.set_cons_succ]
      refine take_at 3 (some 52) (.agg #[.bool o, .int .i64 n]) rfl rfl (by kernel_rfl) (by kernel_rfl) (by kernel_rfl) (fun _ _ _ h => h) (by rfl) (fun W hSw => by go_simp) B2 ?_
      simp only [Act.put, List.setIfInBounds_toArray, List.set_cons_zero, List.set_cons_succ]
      refine take_at 4 (some 53) (.agg #[.bool true, .int .i64 0]) rfl rfl (by kernel_rfl) (by kernel_rfl) (by kernel_rfl) (fun _ _ _ h => h) (by rfl) (fun W hSw => by go_simp) B2 ?_
      simp only [Act.put, List.setIfInBounds_toArray, List.set_cons_zero, List.set_cons_succ]
      refine take_at 6 (some 55) (.agg #[.bool true, .int .i64 0]) rfl rfl (by kernel_rfl) (by kernel_rfl) (by kernel_rfl) (fun _ _ _ h => h) (by rfl) (fun W hSw => by go_simp) B2 ?_
      simp only [Act.put, List.setIfInBounds_toArray, List.set_cons_zero, List.set_cons_succ]
      refine take_at 7 (some 56) (.agg #[.bool o, .int .i64 n]) rfl rfl (by kernel_rfl) (by kernel_rfl) (by kernel_rfl) (fun _ _ _ h => h) (by rfl) (fun W hSw => by go_simp) B2 ?_
      simp only [Act.put, List.setIfInBounds_toArray, List.set_cons_zero, List.set_cons_succ]
      refine take_at 9 (some 58) (.agg #[.bool o, .int .i64 n]) rfl rfl (by kernel_rfl) (by kernel_rfl) (by kernel_rfl) (fun _ _ _ h => h) (by rfl) (fun W hSw => by go_simp) B2 ?_
      simp only [Act.put, List.setIfInBounds_toArray, List.set_cons_zero, List.set_cons_succ]
      refine take_at 10 (some 59) (.agg #[.bool true, .int .i64 0]) rfl rfl (by kernel_rfl) (by kernel_rfl) (by kernel_rfl) (fun _ _ _ h => h) (by rfl) (fun W hSw => by go_simp) B2 ?_
      simp only [Act.put, List.setIfInBounds_toArray, List.set_cons_zero, List.set_cons_succ]
      refine take_at 12 (some 61) (.agg #[.bool true, .int .i64 0]) rfl rfl (by kernel_rfl) (by kernel_rfl) (by kernel_rfl) (fun _ _ _ h => h) (by rfl) (fun W hSw => by go_simp) B2 ?_
      simp only [Act.put, List.setIfInBounds_toArray, List.set_cons_zero, List.set_cons_succ]
      refine take_at 15 (some 64) (.int .i64 0) rfl rfl (by kernel_rfl) (by kernel_rfl) (by kernel_rfl) (fun _ _ _ h => h) (by rfl) (fun W hSw => by go_simp) B2 ?_
      simp only [Act.put, List.setIfInBounds_toArray, List.set_cons_zero, List.set_cons_succ]
      refine wpAnyH_ready (rs := [2]) (by kernel_rfl) (by simp) ?_
      refine AllReadyH.cons rfl (fun K hK => ?_) AllReadyH.nil
      go_simp
      refine (c7 _).mono ?_
      rintro e w11 ⟨rfl, hb11⟩
      have B11 := Below.chain B2 hb11
      refine hK.out _ _ ?_ (fun _ => ?_)
      · exact B11
      clear hK K
      refine wpAnyH_ready (rs := [5]) (by kernel_rfl) (by simp) ?_
      refine AllReadyH.cons rfl (fun K hK => ?_) AllReadyH.nil
      go_simp
      refine (c8 _).mono ?_
      rintro e w12 ⟨rfl, hb12⟩
      have B12 := Below.chain B11 hb12
      refine hK.out _ _ ?_ (fun _ => ?_)
      · exact B12
      clear hK K
      refine wpAnyH_ready (rs := [8]) (by kernel_rfl) (by simp) ?_
      refine AllReadyH.cons rfl (fun K hK => ?_) AllReadyH.nil
      go_simp
      refine (c9 _).mono ?_
      rintro e w13 ⟨rfl, hb13⟩
      have B13 := Below.chain B12 hb13
      refine hK.out _ _ ?_ (fun _ => ?_)
      · exact B13
      clear hK K
      refine wpAnyH_ready (rs := [11]) (by kernel_rfl) (by simp) ?_
      refine AllReadyH.cons rfl (fun K hK => ?_) AllReadyH.nil
      go_simp
      refine (c10 _).mono ?_
      rintro e w14 ⟨rfl, hb14⟩
      have B14 := Below.chain B13 hb14
      refine hK.out _ _ ?_ (fun _ => ?_)
      · exact B14
      clear hK K
      refine wpAnyH_ready (rs := [13]) (by kernel_rfl) (by simp) ?_
      refine AllReadyH.cons rfl (fun K hK => ?_) AllReadyH.nil
      go_simp
      refine (c11 _).mono ?_
      rintro e w15 ⟨rfl, hb15⟩
      have B15 := Below.chain B14 hb15
      refine hK.out _ _ ?_ (fun _ => ?_)
      · exact B15
      clear hK K
      refine take_at 14 (some 63) (.agg #[.bool true, .int .i64 0, .bool true, .int .i64 0, .bool true, .int .i64 0, .bool true, .int .i64 0, .bool true, .int .i64 0]) rfl rfl (by kernel_rfl) (by kernel_rfl) (by kernel_rfl) (fun _ _ _ h => h) (by rfl) (fun W hSw => by go_simp) B15 ?_
      simp only [Act.put, List.setIfInBounds_toArray, List.set_cons_zero, List.set_cons_succ]
      refine wpAnyH_done (by kernel_rfl) ?_ _
      refine NoPanic.normal ?_
      go_wp2_with fail
      go_meet
      exact ⟨rfl, rfl, hx.later B15, h5.later B15, h6.later B15, h7.later B15, Below.chain hb B15⟩
    case rest =>
      clear hx h5 h6 h7 hb
      obtain ⟨rfl, rfl, hx, h5, h6, h7, hb⟩ := hcut
      go_wp2_with fail
      go_loopw [64] (fun i wx => ∃ j : Nat, j ≤ 5 ∧ i = .int .i64 j ∧ Box wx w.heap.size o n ∧ Box wx wk.heap.size false 9223372036854775807 ∧ Box wx (wk.heap.size + 1) false 0 ∧ Box wx (wk.heap.size + 1 + 1) true 0 ∧ Below w.heap.size w wx) (fun i _ => 5 - (intOf i).toNat)
      case atStart => exact ⟨0, by omega, rfl, hx, h5, h6, h7, hb⟩
      case round =>
        clear hx h5 h6 h7 hb
        obtain ⟨j, hj, rfl, hx, h5, h6, h7, hb⟩ := hrel
        by_cases hlt : j < 5
        · have g7 := h7.later (bal (Below.refl _ wr) (.cells #[.bool true, .int .i64 0] 24))
          have A9 := bal (Below.refl _ wr) (.cells #[.bool true, .int .i64 0] 24)
          have h9 := Box.new wr true 0
          obtain ⟨c0, c1, _, _⟩ := id g7
          obtain ⟨d0, d1, _, _⟩ := id h9
          obtain rfl | rfl | rfl | rfl | rfl : j = 0 ∨ j = 1 ∨ j = 2 ∨ j = 3 ∨ j = 4 := by omega
          · go_wp2_with fail
            go_roundw
            case rel => exact ⟨1, by omega, rfl, hx.later A9, h5.later A9, h6.later A9, g7, Below.chain hb A9⟩
            case measure => simp [intOf]
          · go_wp2_with fail
            go_roundw
            case rel => exact ⟨2, by omega, rfl, hx.later A9, h5.later A9, h6.later A9, g7, Below.chain hb A9⟩
            case measure => simp [intOf]
          · go_wp2_with fail
            go_roundw
            case rel => exact ⟨3, by omega, rfl, hx.later A9, h5.later A9, h6.later A9, g7, Below.chain hb A9⟩
            case measure => simp [intOf]
          · go_wp2_with fail
            go_roundw
            case rel => exact ⟨4, by omega, rfl, hx.later A9, h5.later A9, h6.later A9, g7, Below.chain hb A9⟩
            case measure => simp [intOf]
          · go_wp2_with fail
            go_roundw
            case rel => exact ⟨5, by omega, rfl, hx.later A9, h5.later A9, h6.later A9, g7, Below.chain hb A9⟩
            case measure => simp [intOf]
        · obtain rfl : j = 5 := by omega
          go_upto_region 14 with fail
          generalize wr = w1 at *
          have m0 := hx.at0
          have m1 := hx.at1
          have m2 := h5.at0
          have m3 := h5.at1
          have m4 := h6.at0
          have m5 := h6.at1
          have m6 := h7.at0
          have m7 := h7.at1
          refine wp_region_noPanic ?_
          refine wp_region_held_drew (S := fun W => Below w1.heap.size w1 W) (by kernel_rfl) ?_ (fun _ => ?_)
          · exact (Below.refl _ _).drew
          have B2 : Below w1.heap.size w1 w1.drew := (Below.refl _ _).drew
          generalize w1.drew = w2 at *
          refine take_at 0 (some 71) (.agg #[.bool false, .int .i64 9223372036854775807]) rfl rfl (by kernel_rfl) (by kernel_rfl) (by kernel_rfl) (fun _ _ _ h => h) (by rfl) (fun W hSw => by go_simp) B2 ?_
          simp only [Act.put, List.setIfInBounds_toArray, List.set_cons_zero, List.set_cons_succ]
          refine take_at 1 (some 72) (.agg #[.bool false, .int .i64 0]) rfl rfl (by kernel_rfl) (by kernel_rfl) (by kernel_rfl) (fun _ _ _ h => h) (by rfl) (fun W hSw => by go_simp) B2 ?_
          simp only [Act.put, List.setIfInBounds_toArray, List.set_cons_zero, List.set_cons_succ]
          refine take_at 2 (some 73) (.agg #[.bool false, .int .i64 9223372036854775807]) rfl rfl (by kernel_rfl) (by kernel_rfl) (by kernel_rfl) (fun _ _ _ h => h) (by rfl) (fun W hSw => by go_simp) B2 ?_
          simp only [Act.put, List.setIfInBounds_toArray, List.set_cons_zero, List.set_cons_succ]
          refine take_at 6 (some 77) (.agg #[.bool false, .int .i64 0]) rfl rfl (by kernel_rfl) (by kernel_rfl) (by kernel_rfl) (fun _ _ _ h => h) (by rfl) (fun W hSw => by go_simp) B2 ?_
          simp only [Act.put, List.setIfInBounds_toArray, List.set_cons_zero, List.set_cons_succ]
          refine wpAnyH_ready (rs := [3]) (by kernel_rfl) (by simp) ?_
          refine AllReadyH.cons rfl (fun K hK => ?_) AllReadyH.nil
          go_simp
          refine (c2 _).mono ?_
          rintro e w11 ⟨rfl, hb11⟩
          have B11 := Below.chain B2 hb11
          refine hK.out _ _ ?_ (fun _ => ?_)
          · exact B11
          clear hK K
          refine wpAnyH_ready (rs := [4]) (by kernel_rfl) (by simp) ?_
          refine AllReadyH.cons rfl (fun K hK => ?_) AllReadyH.nil
          go_simp
          have sl12 := Ns.three w11 (false) (false) (false) (9223372036854775807) (0) ((-9223372036854775807))
          have E12 := bal (Below.refl _ w11) (.cells #[.bool false, .int .i64 9223372036854775807, .bool false, .int .i64 0, .bool false, .int .i64 (-9223372036854775807)] 24)
          have B12 := Below.chain B11 E12
          refine hK.out _ _ ?_ (fun _ => ?_)
          · exact B12
          clear hK K
          generalize w11.alloc (.cells #[.bool false, .int .i64 9223372036854775807, .bool false, .int .i64 0, .bool false, .int .i64 (-9223372036854775807)] 24) = w12 at *
          refine wpAnyH_ready (rs := [5]) (by kernel_rfl) (by simp) ?_
          refine AllReadyH.cons rfl (fun K hK => ?_) AllReadyH.nil
          go_simp
          refine (hS3 _ _ sl12).mono ?_
          rintro e w13 ⟨rfl, hb13⟩
          have B13 := Below.chain B12 hb13
          have sl12_13 := sl12.later hb13
          refine hK.out _ _ ?_ (fun _ => ?_)
          · exact B13
          clear hK K
          refine take_at 7 (some 78) (.bool true) rfl rfl (by kernel_rfl) (by kernel_rfl) (by kernel_rfl) (fun _ _ _ h => h) (by rfl) (fun W hSw => by go_simp) B13 ?_
          simp only [Act.put, List.setIfInBounds_toArray, List.set_cons_zero, List.set_cons_succ]
          refine take_at 8 (some 79) (.bool true) rfl rfl (by kernel_rfl) (by kernel_rfl) (by kernel_rfl) (fun _ _ _ h => h) (by rfl) (fun W hSw => by go_simp) B13 ?_
          simp only [Act.put, List.setIfInBounds_toArray, List.set_cons_zero, List.set_cons_succ]
          refine take_at 9 (some 80) (.agg #[.bool false, .int .i64 9223372036854775807]) rfl rfl (by kernel_rfl) (by kernel_rfl) (by kernel_rfl) (fun _ _ _ h => h) (by rfl) (fun W hSw => by go_simp) B13 ?_
          simp only [Act.put, List.setIfInBounds_toArray, List.set_cons_zero, List.set_cons_succ]
          refine take_at 12 (some 83) (.agg #[.bool true, .int .i64 0]) rfl rfl (by kernel_rfl) (by kernel_rfl) (by kernel_rfl) (fun _ _ _ h => h) (by rfl) (fun W hSw => by go_simp) B13 ?_
          simp only [Act.put, List.setIfInBounds_toArray, List.set_cons_zero, List.set_cons_succ]
          refine wpAnyH_ready (rs := [10]) (by kernel_rfl) (by simp) ?_
          refine AllReadyH.cons rfl (fun K hK => ?_) AllReadyH.nil
          go_simp
          refine (c12 _).mono ?_
          rintro e w14 ⟨rfl, hb14⟩
          have B14 := Below.chain B13 hb14
          have sl12_13_14 := sl12_13.later hb14
          refine hK.out _ _ ?_ (fun _ => ?_)
          · exact B14
          clear hK K
          refine wpAnyH_ready (rs := [11]) (by kernel_rfl) (by simp) ?_
          refine AllReadyH.cons rfl (fun K hK => ?_) AllReadyH.nil
          go_simp
          refine (c13 _).mono ?_
          rintro e w15 ⟨rfl, hb15⟩
          have B15 := Below.chain B14 hb15
          have sl12_13_14_15 := sl12_13_14.later hb15
          refine hK.out _ _ ?_ (fun _ => ?_)
          · exact B15
          clear hK K
          refine take_at 13 (some 84) (.bool true) rfl rfl (by kernel_rfl) (by kernel_rfl) (by kernel_rfl) (fun _ _ _ h => h) (by rfl) (fun W hSw => by go_simp) B15 ?_
          simp only [Act.put, List.setIfInBounds_toArray, List.set_cons_zero, List.set_cons_succ]
          refine take_at 14 (some 85) (.bool true) rfl rfl (by kernel_rfl) (by kernel_rfl) (by kernel_rfl) (fun _ _ _ h => h) (by rfl) (fun W hSw => by go_simp) B15 ?_
          simp only [Act.put, List.setIfInBounds_toArray, List.set_cons_zero, List.set_cons_succ]
          refine take_at 15 (some 86) (.bool true) rfl rfl (by kernel_rfl) (by kernel_rfl) (by kernel_rfl) (fun _ _ _ h => h) (by rfl) (fun W hSw => by go_simp) B15 ?_
          simp only [Act.put, List.setIfInBounds_toArray, List.set_cons_zero, List.set_cons_succ]
          refine take_at 16 (some 87) (.agg #[.bool false, .int .i64 9223372036854775807]) rfl rfl (by kernel_rfl) (by kernel_rfl) (by kernel_rfl) (fun _ _ _ h => h) (by rfl) (fun W hSw => by go_simp) B15 ?_
          simp only [Act.put, List.setIfInBounds_toArray, List.set_cons_zero, List.set_cons_succ]
          refine take_at 17 (some 88) (.agg #[.bool false, .int .i64 500000]) rfl rfl (by kernel_rfl) (by kernel_rfl) (by kernel_rfl) (fun _ _ _ h => h) (by rfl) (fun W hSw => by go_simp) B15 ?_
          simp only [Act.put, List.setIfInBounds_toArray, List.set_cons_zero, List.set_cons_succ]
          refine take_at 19 (some 90) (.agg #[.bool true, .int .i64 0]) rfl rfl (by kernel_rfl) (by kernel_rfl) (by kernel_rfl) (fun _ _ _ h => h) (by rfl) (fun W hSw => by go_simp) B15 ?_
          simp only [Act.put, List.setIfInBounds_toArray, List.set_cons_zero, List.set_cons_succ]
          refine wpAnyH_ready (rs := [18]) (by kernel_rfl) (by simp) ?_
          refine AllReadyH.cons rfl (fun K hK => ?_) AllReadyH.nil
          go_simp
          refine (c14 _).mono ?_
          rintro e w16 ⟨rfl, hb16⟩
          have B16 := Below.chain B15 hb16
          have sl12_13_14_15_16 := sl12_13_14_15.later hb16
          refine hK.out _ _ ?_ (fun _ => ?_)
          · exact B16
          clear hK K
          refine take_at 20 (some 91) (.bool true) rfl rfl (by kernel_rfl) (by kernel_rfl) (by kernel_rfl) (fun _ _ _ h => h) (by rfl) (fun W hSw => by go_simp) B16 ?_
          simp only [Act.put, List.setIfInBounds_toArray, List.set_cons_zero, List.set_cons_succ]
          refine take_at 21 (some 92) (.bool true) rfl rfl (by kernel_rfl) (by kernel_rfl) (by kernel_rfl) (fun _ _ _ h => h) (by rfl) (fun W hSw => by go_simp) B16 ?_
          simp only [Act.put, List.setIfInBounds_toArray, List.set_cons_zero, List.set_cons_succ]
          refine take_at 22 (some 4) (.bool true) rfl rfl (by kernel_rfl) (by kernel_rfl) (by kernel_rfl) (fun _ _ _ h => h) (by rfl) (fun W hSw => by go_simp) B16 ?_
          simp only [Act.put, List.setIfInBounds_toArray, List.set_cons_zero, List.set_cons_succ]
          refine wpAnyH_done (by kernel_rfl) ?_ _
          refine NoPanic.normal ?_
          go_wp2
          go_ret
          exact ⟨rfl, Below.chain hb B16⟩
theorem edges_row (d : Int) (o : Bool) (n : Int) (hd : 0 ≤ d ∧ d ≤ 4294967295) (hn : R64 n) (w : World) (ht : Tab Tryd.prog w) :
    Calls Tryd.prog 3 #[.int .u32 d, .agg #[.bool o, .int .i64 n]] w fun e w' => e = .returned (.bool true) ∧ Below w.heap.size w w' := by
  by_cases h : d = 0
  · subst h
    exact edges_zero o n hn w ht
  · exact edges_pos d (by omega) hd.2 o n hn w ht
end Go.Proofs.YtibdlcegmepbcabDoor
