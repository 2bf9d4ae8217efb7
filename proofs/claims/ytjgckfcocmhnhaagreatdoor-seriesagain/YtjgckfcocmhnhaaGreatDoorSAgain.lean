/- SeriesAgain: a series that has gone and comes again begins anew. -/
import Derived.Test.YtjgckfcocmhnhaaGreatDoorMZ
import Derived.Test.YtjgckfcocmhnhaaGreatDoorMY
namespace Go.Proofs.YtjgckfcocmhnhaaGreatDoor.Sr
open Go.RowKit Rn

def aq : List Lb.Pr := sq [109] 120
theorem aq_fit : Lb.Fit aq := by
  intro p hp
  unfold aq sq at hp
  simp only [List.mem_cons, List.not_mem_nil, or_false] at hp
  rcases hp with rfl | rfl <;> exact ⟨by decide, by decide⟩
def aL : HL := [(aq, [(5, false, 1000000)])]
theorem ag1 : addEL 5 [] aq 5 = 0 := by decide +kernel
theorem ag2 : addLL 5 [] aq (5, false, 1000000) = aL := by decide +kernel
theorem ag3 : hasL aq aL = true := by decide +kernel
theorem ag4 : smpL aq aL = [(5, false, 1000000)] := by decide +kernel
theorem ag5 : posL aq aL = 0 := by decide +kernel
theorem ag6 : Lb.fIs aq = true := by decide +kernel
theorem ag7 : hasL aq [] = false := by decide +kernel
theorem ag8 : posL aq [] = 0 := by decide +kernel
theorem ag_in {n : Int} (h1 : n - 100 < 5) : advL n aL = aL := by
  unfold advL aL
  have : fg (n - 100) [(5, false, 1000000)] = [(5, false, 1000000)] := by
    unfold fg
    rw [if_neg (by show ¬ (5 : Int) ≤ n - 100; omega)]
  simp [this]
theorem ag_out {n : Int} (h1 : ¬ n - 100 < 5) : advL n aL = [] := by
  unfold advL aL
  have : fg (n - 100) [(5, false, 1000000)] = [] := by
    unfold fg
    rw [if_pos (by show (5 : Int) ≤ n - 100; omega)]
    rfl
  simp [this]
theorem ag_e (n t : Int) : addEL n aL aq t = adE [(5, false, 1000000)] 100 n t := by
  unfold addEL
  rw [if_neg (by rw [ag6]; decide), if_pos ag3, ag4]
theorem ag_e0 (n t : Int) (h : adE [] 100 n t = 0) : addEL n [] aq t = 0 := by
  unfold addEL
  rw [if_neg (by rw [ag6]; decide), if_neg (by rw [ag7]; decide), if_neg (by simpa using h), if_neg (by decide)]
theorem ag_e1 (n t : Int) (h : adE [] 100 n t ≠ 0) : addEL n [] aq t = adE [] 100 n t := by
  unfold addEL
  rw [if_neg (by rw [ag6]; decide), if_neg (by rw [ag7]; decide), if_pos h]
theorem lst_a : lst [((5 : Int), false, (1000000 : Int))] = (5, false, 1000000) := rfl
/-- What comes of the second sample, where the first is still there. -/
theorem ag_neg {n t : Int} (L : HL) (hL : L = aL ∨ L = []) (h : t < 0) : addEL n L aq t = 152 := by
  rcases hL with rfl | rfl
  · rw [ag_e]; unfold adE; rw [if_pos (Or.inl h)]
  · have : adE [] 100 n t = 152 := by unfold adE; rw [if_pos (Or.inl h)]
    rw [ag_e1 _ _ (by rw [this]; decide), this]
theorem ag_old {n t : Int} (h0 : 0 ≤ t) (h1 : t ≤ n) (h2 : n - 100 < t) (h3 : t ≤ 5) : addEL n aL aq t = 150 := by
  rw [ag_e]; unfold adE
  rw [if_neg (by omega), if_pos ⟨by simp, by rw [lst_a]; exact h3⟩]
theorem ag_new {n t : Int} (_h0 : 0 ≤ t) (h1 : t ≤ n) (h2 : n - 100 < t) (h3 : 5 < t) : addEL n aL aq t = 0 := by
  rw [ag_e]; unfold adE
  rw [if_neg (by omega), if_neg (by rw [lst_a]; intro h; have : t ≤ 5 := h.2; omega)]
theorem ag_anew {n t : Int} (h0 : 0 ≤ t) (h1 : t ≤ n) (h2 : n - 100 < t) : addEL n [] aq t = 0 := by
  apply ag_e0
  unfold adE
  rw [if_neg (by omega), if_neg (by simp)]
theorem nrm_lit (t : Int) : nrm (t, false, 2000000) = (t, false, 2000000) := rfl
theorem ag_L {n t : Int} (h : addEL n aL aq t = 0) : addLL n aL aq (t, false, 2000000) = [(aq, [(5, false, 1000000), (t, false, 2000000)])] := by
  unfold addLL
  rw [if_neg (by show ¬ addEL n aL aq t ≠ 0; rw [h]; decide), if_pos ag3, ag4, ag5]
  rfl
theorem ag_L0 {n t : Int} (h : addEL n [] aq t = 0) : addLL n [] aq (t, false, 2000000) = [(aq, [(t, false, 2000000)])] := by
  unfold addLL
  rw [if_neg (by show ¬ addEL n [] aq t ≠ 0; rw [h]; decide), if_neg (by rw [ag7]; decide), ag8]
  rfl
theorem ag_s (l : List Smp) : smpL aq [(aq, l)] = l := by
  have h1 : posL aq [(aq, l)] = 0 := by
    unfold posL
    rw [List.findIdx_cons]
    have : decide (0 ≤ Lb.fCmp aq aq) = true := by rw [(Lb.fCmp_zero aq aq).2 rfl]; rfl
    rw [this]
    rfl
  have h2 : hasL aq [(aq, l)] = true := by
    unfold hasL
    rw [h1]
    show (decide (0 < 1) && decide (Lb.fCmp aq aq = 0)) = true
    rw [(Lb.fCmp_zero aq aq).2 rfl]
    rfl
  unfold smpL
  rw [if_pos h2, h1]
  rfl
theorem ag_w2 {n t : Int} (h0 : 5 < t) (h1 : t ≤ n) (h2 : n - 100 < 5) : addAll 100 n [] [(5, false, 1000000), (t, false, 2000000)] = [(5, false, 1000000), (t, false, 2000000)] := by
  have e1 : adL [] 100 n (5, false, 1000000) = [(5, false, 1000000)] := by
    unfold adL adE
    rw [if_pos (by show (if (5 : Int) < 0 ∨ n < 5 ∨ 5 ≤ n - 100 then (152 : Int) else if ([] : List Smp) ≠ [] ∧ (5 : Int) ≤ _ then 150 else 0) = 0; rw [if_neg (by omega), if_neg (by simp)])]
    rfl
  show adL (adL [] 100 n (5, false, 1000000)) 100 n (t, false, 2000000) = _
  rw [e1]
  unfold adL adE
  rw [if_pos (by show (if t < 0 ∨ n < t ∨ t ≤ n - 100 then (152 : Int) else if ([((5 : Int), false, (1000000 : Int))] : List Smp) ≠ [] ∧ t ≤ 5 then 150 else 0) = 0; rw [if_neg (by omega), if_neg (by omega)])]
  rfl
theorem ag_w1 {n t : Int} (h0 : 0 ≤ t) (h1 : t ≤ n) (h2 : n - 100 < t) : addAll 100 n [] [(t, false, 2000000)] = [(t, false, 2000000)] := by
  show adL [] 100 n (t, false, 2000000) = _
  unfold adL adE
  rw [if_pos (by show (if t < 0 ∨ n < t ∨ t ≤ n - 100 then (152 : Int) else if ([] : List Smp) ≠ [] ∧ t ≤ _ then 150 else 0) = 0; rw [if_neg (by omega), if_neg (by simp)])]
  rfl
theorem wd100 : wd 100 = 100 := by decide +kernel
theorem onw_g (g : Nat) (h : g ≤ 255) : onw 5 (5 + (g : Int)) = 5 + (g : Int) := by unfold onw; omega
set_option maxHeartbeats 8000000 in
set_option maxRecDepth 100000 in
theorem again_any (g b : Nat) (w : World) (hg : g ≤ 255) (hb : b ≤ 255) : Calls Tryz.prog 8 #[.int .u8 g, .int .u8 b] w fun e w' => e = .returned (.bool true) ∧ Below w.heap.size w w' := by
  go_enter Tryz.func8, Tryz.ntmps8
  go_wp2_with fail
  refine (known_any _).mono ?_
  rintro e w1 ⟨rfl, hb1⟩
  go_wp2_with fail
  refine (new_s2 w w1 hb1).mono ?_
  rintro e w2 ⟨rfl, h2⟩
  clear hb1
  go_wp2_with fail
  refine (set_any [109] 120 w2).mono ?_
  rintro e w3 ⟨lb, rfl, hpq, hlb, hb3⟩
  have h3 : S2 w w3 w1.heap.size 0 [] _ aq := h2.with _ hpq hb3 (own_ge hlb 2 2)
  clear h2 hpq hlb hb3
  generalize w1.heap.size = sb at *
  go_wp2_with fail
  refine (s2_advK h3 5 kn1 kn2).mono ?_
  rintro e w4 ⟨rfl, h4⟩
  clear h3
  go_wp2_with fail
  refine (kn_of 1 1000000 (by decide +kernel) (r64_lit rfl) _).mono ?_
  rintro e w5 ⟨rfl, hb5⟩
  have h5 := h4.later hb5
  clear h4 hb5
  go_wp2_with fail
  refine (s2_addK h5 aq_fit (5, false, 1000000) (r64_lit rfl) ag1 ag2).mono ?_
  rintro e w6 ⟨rfl, h6⟩
  clear h5
  go_wp2_with fail
  have HX : Hid (advL (5 + (g : Int)) aL = aL ∨ advL (5 + (g : Int)) aL = []) := by
    by_cases hx : (5 + (g : Int)) - 100 < 5
    · exact Or.inl (ag_in hx)
    · exact Or.inr (ag_out hx)
  refine (s2_advK h6 (5 + (g : Int)) (onw_g g hg) rfl).mono ?_
  rintro e w7 ⟨rfl, h7⟩
  clear h6
  go_wp2_with fail
  have hTn : 5 + (g : Int) - (b : Int) % 50 ≤ 5 + (g : Int) ∧ 5 + (g : Int) - 100 < 5 + (g : Int) - (b : Int) % 50 := by omega
  have hnb : 5 ≤ 5 + (g : Int) ∧ 5 + (g : Int) ≤ 260 := by omega
  generalize 5 + (g : Int) - (b : Int) % 50 = T at *
  have hTb : -100 ≤ T ∧ T ≤ 260 := by omega
  refine (kn_of 2 2000000 (by decide +kernel) (r64_lit rfl) _).mono ?_
  rintro e w8 ⟨rfl, hb8⟩
  have h8 := h7.later hb8
  clear h7 hb8
  generalize 5 + (g : Int) = n at *
  by_cases hneg : T < 0
  · have HL : Hid (addEL n (advL n aL) aq T = 152) := ag_neg _ HX.out hneg
    have d1 : decide (T < 0) = true := decide_eq_true hneg
    go_wp2_with fail
    refine (s2_addK h8 aq_fit (T, false, 2000000) (r64_lit rfl) HL.out rfl).mono ?_
    rintro e w9 ⟨rfl, h9⟩
    have hbf := h9.b
    clear h8 h9
    go_wp2
    all_goals
      go_ret
      exact ⟨rfl, hbf⟩
  · have d1 : decide (T < 0) = false := decide_eq_false hneg
    have d2 : decide (T ≤ n - 100) = false := decide_eq_false (by omega)
    have d2' : ¬ T ≤ n - 100 := by omega
    by_cases hth : n - 100 < 5
    · have d3 : decide (n - 100 < 5) = true := decide_eq_true hth
      rw [ag_in hth] at h8
      by_cases hold : T ≤ 5
      · have d4 : decide (T ≤ 5) = true := decide_eq_true hold
        have HL : Hid (addEL n aL aq T = 150) := ag_old (by omega) (by omega) (by omega) hold
        go_wp2_with fail
        refine (s2_addK h8 aq_fit (T, false, 2000000) (r64_lit rfl) HL.out rfl).mono ?_
        rintro e w9 ⟨rfl, h9⟩
        have hbf := h9.b
        clear h8 h9
        go_wp2
        all_goals
          go_ret
          exact ⟨rfl, hbf⟩
      · have d4 : decide (T ≤ 5) = false := decide_eq_false hold
        have HL : Hid (addEL n aL aq T = 0) := ag_new (by omega) (by omega) (by omega) (by omega)
        have HW : Hid (addAll (wd 100) n [] (smpL aq [(aq, [(5, false, 1000000), (T, false, 2000000)])]) = [(5, false, 1000000), (T, false, 2000000)]) := by
          show _ = _
          rw [wd100, ag_s]
          exact ag_w2 (by omega) (by omega) hth
        go_wp2_with fail
        refine (s2_addK h8 aq_fit (T, false, 2000000) (r64_lit rfl) HL.out (ag_L HL.out)).mono ?_
        rintro e w9 ⟨rfl, h9⟩
        clear h8
        go_wp2_with fail
        refine (s2_window h9 100).mono ?_
        rintro e w10 ⟨u, rfl, hou, hb10⟩
        rw [HW.out] at hou
        obtain ⟨ua, uc, rfl, hms⟩ := hou.slice
        obtain ⟨ub, uo, rfl, hcc⟩ := hms.2 (by simp)
        obtain ⟨c0, c1, c2⟩ := hcc 1 (by simp)
        have hbf := (h9.later hb10).b
        clear hou hms hcc h9 hb10
        have hk1 : w10.cell? ⟨ub, uo + 4, none⟩ = some (Value.bool false) := c1
        have hk2 : w10.cell? ⟨ub, uo + 5, none⟩ = some (Value.int .i64 2000000) := c2
        have HS : Hid (∀ W, Below w10.heap.size w10 W → (fun W : World => W.cell? ⟨ub, uo + 4, none⟩ = some (Value.bool false) ∧ W.cell? ⟨ub, uo + 5, none⟩ = some (Value.int .i64 2000000)) W) := fun W hW => ⟨(hW.cell (p := ⟨ub, uo + 4, none⟩) (World.block_lt_of_cell? _ _ hk1)).trans hk1, (hW.cell (p := ⟨ub, uo + 5, none⟩) (World.block_lt_of_cell? _ _ hk2)).trans hk2⟩
        have hbd := (Below.refl w10.heap.size w10).drew
        clear c0 c1 c2 hk1 hk2
        go_wp2_with fail
        have hS0 : (fun W : World => W.cell? ⟨ub, uo + 4, none⟩ = some (Value.bool false) ∧ W.cell? ⟨ub, uo + 5, none⟩ = some (Value.int .i64 2000000)) _ := HS.out _ hbd
        refine wp_region_noPanic ?_
        refine wp_region_held_drew (S := fun W : World => W.cell? ⟨ub, uo + 4, none⟩ = some (Value.bool false) ∧ W.cell? ⟨ub, uo + 5, none⟩ = some (Value.int .i64 2000000)) (by kernel_rfl) hS0 (fun _ => ?_)
        refine take_at 0 (some 68) (.int .i64 0) rfl rfl (by kernel_rfl) (by kernel_rfl) (by kernel_rfl) (fun _ _ _ h => h) (by rfl) (fun W hSw => by obtain ⟨q0, q1⟩ := hSw; go_simp) hS0 ?_
        simp only [Act.put, List.setIfInBounds_toArray, List.set_cons_zero, List.set_cons_succ]
        refine take_at 1 (some 69) (.bool true) rfl rfl (by kernel_rfl) (by kernel_rfl) (by kernel_rfl) (fun _ _ _ h => h) (by rfl) (fun W hSw => by obtain ⟨q0, q1⟩ := hSw; go_simp) hS0 ?_
        simp only [Act.put, List.setIfInBounds_toArray, List.set_cons_zero, List.set_cons_succ]
        refine take_at 2 (some 70) (.bool true) rfl rfl (by kernel_rfl) (by kernel_rfl) (by kernel_rfl) (fun _ _ _ h => h) (by rfl) (fun W hSw => by obtain ⟨q0, q1⟩ := hSw; go_simp) hS0 ?_
        simp only [Act.put, List.setIfInBounds_toArray, List.set_cons_zero, List.set_cons_succ]
        refine take_at 3 (some 71) (.slice (some ⟨ub, uo, none⟩) 2 uc) rfl rfl (by kernel_rfl) (by kernel_rfl) (by kernel_rfl) (fun _ _ _ h => h) (by rfl) (fun W hSw => by obtain ⟨q0, q1⟩ := hSw; go_simp) hS0 ?_
        simp only [Act.put, List.setIfInBounds_toArray, List.set_cons_zero, List.set_cons_succ]
        refine take_at 4 (some 72) (.int .i64 2) rfl rfl (by kernel_rfl) (by kernel_rfl) (by kernel_rfl) (fun _ _ _ h => h) (by rfl) (fun W hSw => by obtain ⟨q0, q1⟩ := hSw; go_simp) hS0 ?_
        simp only [Act.put, List.setIfInBounds_toArray, List.set_cons_zero, List.set_cons_succ]
        refine take_at 5 (some 73) (.int .i64 2) rfl rfl (by kernel_rfl) (by kernel_rfl) (by kernel_rfl) (fun _ _ _ h => h) (by rfl) (fun W hSw => by obtain ⟨q0, q1⟩ := hSw; go_simp) hS0 ?_
        simp only [Act.put, List.setIfInBounds_toArray, List.set_cons_zero, List.set_cons_succ]
        refine take_at 6 (some 74) (.bool true) rfl rfl (by kernel_rfl) (by kernel_rfl) (by kernel_rfl) (fun _ _ _ h => h) (by rfl) (fun W hSw => by obtain ⟨q0, q1⟩ := hSw; go_simp) hS0 ?_
        simp only [Act.put, List.setIfInBounds_toArray, List.set_cons_zero, List.set_cons_succ]
        refine take_at 7 (some 75) (.bool true) rfl rfl (by kernel_rfl) (by kernel_rfl) (by kernel_rfl) (fun _ _ _ h => h) (by rfl) (fun W hSw => by obtain ⟨q0, q1⟩ := hSw; go_simp) hS0 ?_
        simp only [Act.put, List.setIfInBounds_toArray, List.set_cons_zero, List.set_cons_succ]
        refine take_at 8 (some 76) (.bool true) rfl rfl (by kernel_rfl) (by kernel_rfl) (by kernel_rfl) (fun _ _ _ h => h) (by rfl) (fun W hSw => by obtain ⟨q0, q1⟩ := hSw; go_simp) hS0 ?_
        simp only [Act.put, List.setIfInBounds_toArray, List.set_cons_zero, List.set_cons_succ]
        refine take_at 9 (some 77) (.slice (some ⟨ub, uo, none⟩) 2 uc) rfl rfl (by kernel_rfl) (by kernel_rfl) (by kernel_rfl) (fun _ _ _ h => h) (by rfl) (fun W hSw => by obtain ⟨q0, q1⟩ := hSw; go_simp) hS0 ?_
        simp only [Act.put, List.setIfInBounds_toArray, List.set_cons_zero, List.set_cons_succ]
        refine take_at 10 (some 78) (.slice (some ⟨ub, uo, none⟩) 2 uc) rfl rfl (by kernel_rfl) (by kernel_rfl) (by kernel_rfl) (fun _ _ _ h => h) (by rfl) (fun W hSw => by obtain ⟨q0, q1⟩ := hSw; go_simp) hS0 ?_
        simp only [Act.put, List.setIfInBounds_toArray, List.set_cons_zero, List.set_cons_succ]
        refine take_at 11 (some 79) (.int .i64 2) rfl rfl (by kernel_rfl) (by kernel_rfl) (by kernel_rfl) (fun _ _ _ h => h) (by rfl) (fun W hSw => by obtain ⟨q0, q1⟩ := hSw; go_simp) hS0 ?_
        simp only [Act.put, List.setIfInBounds_toArray, List.set_cons_zero, List.set_cons_succ]
        refine take_at 12 (some 80) (.int .i64 1) rfl rfl (by kernel_rfl) (by kernel_rfl) (by kernel_rfl) (fun _ _ _ h => h) (by rfl) (fun W hSw => by obtain ⟨q0, q1⟩ := hSw; go_simp; decide) hS0 ?_
        simp only [Act.put, List.setIfInBounds_toArray, List.set_cons_zero, List.set_cons_succ]
        refine take_at 13 (some 81) (.pointer (some ⟨ub, uo + 3, none⟩)) rfl rfl (by kernel_rfl) (by kernel_rfl) (by kernel_rfl) (fun _ _ _ h => h) (by rfl) (fun W hSw => by obtain ⟨q0, q1⟩ := hSw; go_simp) hS0 ?_
        simp only [Act.put, List.setIfInBounds_toArray, List.set_cons_zero, List.set_cons_succ]
        refine take_at 14 (some 82) (.pointer (some ⟨ub, uo + 4, none⟩)) rfl rfl (by kernel_rfl) (by kernel_rfl) (by kernel_rfl) (fun _ _ _ h => h) (by rfl) (fun W hSw => by obtain ⟨q0, q1⟩ := hSw; go_simp) hS0 ?_
        simp only [Act.put, List.setIfInBounds_toArray, List.set_cons_zero, List.set_cons_succ]
        refine take_at 15 (some 83) (.agg #[.bool false, .int .i64 2000000]) rfl rfl (by kernel_rfl) (by kernel_rfl) (by kernel_rfl) (fun _ _ _ h => h) (by rfl) (fun W hSw => by obtain ⟨q0, q1⟩ := hSw; go_simp) hS0 ?_
        simp only [Act.put, List.setIfInBounds_toArray, List.set_cons_zero, List.set_cons_succ]
        refine wpAnyH_ready (rs := [16]) (by kernel_rfl) (by simp) ?_
        refine AllReadyH.cons rfl (fun K hK => ?_) AllReadyH.nil
        go_simp
        refine (kn_of 2 2000000 (by decide +kernel) (r64_lit rfl) _).mono ?_
        rintro e w11 ⟨rfl, hb11⟩
        have hB11 := Below.chain hbd hb11
        have hS1 := HS.out _ hB11
        refine hK.out _ _ hS1 (fun _ => ?_)
        clear hK K
        refine take_at 17 (some 85) (.bool true) rfl rfl (by kernel_rfl) (by kernel_rfl) (by kernel_rfl) (fun _ _ _ h => h) (by rfl) (fun W hSw => by obtain ⟨q0, q1⟩ := hSw; go_simp) hS1 ?_
        simp only [Act.put, List.setIfInBounds_toArray, List.set_cons_zero, List.set_cons_succ]
        refine take_at 18 (some 86) (.bool true) rfl rfl (by kernel_rfl) (by kernel_rfl) (by kernel_rfl) (fun _ _ _ h => h) (by rfl) (fun W hSw => by obtain ⟨q0, q1⟩ := hSw; go_simp) hS1 ?_
        simp only [Act.put, List.setIfInBounds_toArray, List.set_cons_zero, List.set_cons_succ]
        refine take_at 19 (some 4) (.bool true) rfl rfl (by kernel_rfl) (by kernel_rfl) (by kernel_rfl) (fun _ _ _ h => h) (by rfl) (fun W hSw => by obtain ⟨q0, q1⟩ := hSw; go_simp) hS1 ?_
        simp only [Act.put, List.setIfInBounds_toArray, List.set_cons_zero, List.set_cons_succ]
        refine wpAnyH_done (by kernel_rfl) ?_ _
        refine NoPanic.normal ?_
        go_wp2
        go_ret
        exact ⟨rfl, Below.chain hbf hB11⟩
    · have d3 : decide (n - 100 < 5) = false := decide_eq_false hth
      rw [ag_out hth] at h8
      have HL : Hid (addEL n [] aq T = 0) := ag_anew (by omega) (by omega) (by omega)
      have HW : Hid (addAll (wd 100) n [] (smpL aq [(aq, [(T, false, 2000000)])]) = [(T, false, 2000000)]) := by
        show _ = _
        rw [wd100, ag_s]
        exact ag_w1 (by omega) (by omega) (by omega)
      go_wp2_with fail
      refine (s2_addK h8 aq_fit (T, false, 2000000) (r64_lit rfl) HL.out (ag_L0 HL.out)).mono ?_
      rintro e w9 ⟨rfl, h9⟩
      clear h8
      go_wp2_with fail
      refine (s2_window h9 100).mono ?_
      rintro e w10 ⟨u, rfl, hou, hb10⟩
      rw [HW.out] at hou
      obtain ⟨ua, uc, rfl, hms⟩ := hou.slice
      obtain ⟨ub, uo, rfl, hcc⟩ := hms.2 (by simp)
      obtain ⟨c0, c1, c2⟩ := hcc 0 (by simp)
      have hbf := (h9.later hb10).b
      clear hou hms hcc h9 hb10
      have hk1 : w10.cell? ⟨ub, uo + 1, none⟩ = some (Value.bool false) := c1
      have hk2 : w10.cell? ⟨ub, uo + 2, none⟩ = some (Value.int .i64 2000000) := c2
      have HS : Hid (∀ W, Below w10.heap.size w10 W → (fun W : World => W.cell? ⟨ub, uo + 1, none⟩ = some (Value.bool false) ∧ W.cell? ⟨ub, uo + 2, none⟩ = some (Value.int .i64 2000000)) W) := fun W hW => ⟨(hW.cell (p := ⟨ub, uo + 1, none⟩) (World.block_lt_of_cell? _ _ hk1)).trans hk1, (hW.cell (p := ⟨ub, uo + 2, none⟩) (World.block_lt_of_cell? _ _ hk2)).trans hk2⟩
      have hbd := (Below.refl w10.heap.size w10).drew
      clear c0 c1 c2 hk1 hk2
      go_wp2_with fail
      have hS0 : (fun W : World => W.cell? ⟨ub, uo + 1, none⟩ = some (Value.bool false) ∧ W.cell? ⟨ub, uo + 2, none⟩ = some (Value.int .i64 2000000)) _ := HS.out _ hbd
      refine wp_region_noPanic ?_
      refine wp_region_held_drew (S := fun W : World => W.cell? ⟨ub, uo + 1, none⟩ = some (Value.bool false) ∧ W.cell? ⟨ub, uo + 2, none⟩ = some (Value.int .i64 2000000)) (by kernel_rfl) hS0 (fun _ => ?_)
      refine take_at 0 (some 68) (.int .i64 0) rfl rfl (by kernel_rfl) (by kernel_rfl) (by kernel_rfl) (fun _ _ _ h => h) (by rfl) (fun W hSw => by obtain ⟨q0, q1⟩ := hSw; go_simp) hS0 ?_
      simp only [Act.put, List.setIfInBounds_toArray, List.set_cons_zero, List.set_cons_succ]
      refine take_at 1 (some 69) (.bool true) rfl rfl (by kernel_rfl) (by kernel_rfl) (by kernel_rfl) (fun _ _ _ h => h) (by rfl) (fun W hSw => by obtain ⟨q0, q1⟩ := hSw; go_simp) hS0 ?_
      simp only [Act.put, List.setIfInBounds_toArray, List.set_cons_zero, List.set_cons_succ]
      refine take_at 2 (some 70) (.bool true) rfl rfl (by kernel_rfl) (by kernel_rfl) (by kernel_rfl) (fun _ _ _ h => h) (by rfl) (fun W hSw => by obtain ⟨q0, q1⟩ := hSw; go_simp) hS0 ?_
      simp only [Act.put, List.setIfInBounds_toArray, List.set_cons_zero, List.set_cons_succ]
      refine take_at 3 (some 71) (.slice (some ⟨ub, uo, none⟩) 1 uc) rfl rfl (by kernel_rfl) (by kernel_rfl) (by kernel_rfl) (fun _ _ _ h => h) (by rfl) (fun W hSw => by obtain ⟨q0, q1⟩ := hSw; go_simp) hS0 ?_
      simp only [Act.put, List.setIfInBounds_toArray, List.set_cons_zero, List.set_cons_succ]
      refine take_at 4 (some 72) (.int .i64 1) rfl rfl (by kernel_rfl) (by kernel_rfl) (by kernel_rfl) (fun _ _ _ h => h) (by rfl) (fun W hSw => by obtain ⟨q0, q1⟩ := hSw; go_simp) hS0 ?_
      simp only [Act.put, List.setIfInBounds_toArray, List.set_cons_zero, List.set_cons_succ]
      refine take_at 5 (some 73) (.int .i64 1) rfl rfl (by kernel_rfl) (by kernel_rfl) (by kernel_rfl) (fun _ _ _ h => h) (by rfl) (fun W hSw => by obtain ⟨q0, q1⟩ := hSw; go_simp) hS0 ?_
      simp only [Act.put, List.setIfInBounds_toArray, List.set_cons_zero, List.set_cons_succ]
      refine take_at 6 (some 74) (.bool true) rfl rfl (by kernel_rfl) (by kernel_rfl) (by kernel_rfl) (fun _ _ _ h => h) (by rfl) (fun W hSw => by obtain ⟨q0, q1⟩ := hSw; go_simp) hS0 ?_
      simp only [Act.put, List.setIfInBounds_toArray, List.set_cons_zero, List.set_cons_succ]
      refine take_at 7 (some 75) (.bool true) rfl rfl (by kernel_rfl) (by kernel_rfl) (by kernel_rfl) (fun _ _ _ h => h) (by rfl) (fun W hSw => by obtain ⟨q0, q1⟩ := hSw; go_simp) hS0 ?_
      simp only [Act.put, List.setIfInBounds_toArray, List.set_cons_zero, List.set_cons_succ]
      refine take_at 8 (some 76) (.bool true) rfl rfl (by kernel_rfl) (by kernel_rfl) (by kernel_rfl) (fun _ _ _ h => h) (by rfl) (fun W hSw => by obtain ⟨q0, q1⟩ := hSw; go_simp) hS0 ?_
      simp only [Act.put, List.setIfInBounds_toArray, List.set_cons_zero, List.set_cons_succ]
      refine take_at 9 (some 77) (.slice (some ⟨ub, uo, none⟩) 1 uc) rfl rfl (by kernel_rfl) (by kernel_rfl) (by kernel_rfl) (fun _ _ _ h => h) (by rfl) (fun W hSw => by obtain ⟨q0, q1⟩ := hSw; go_simp) hS0 ?_
      simp only [Act.put, List.setIfInBounds_toArray, List.set_cons_zero, List.set_cons_succ]
      refine take_at 10 (some 78) (.slice (some ⟨ub, uo, none⟩) 1 uc) rfl rfl (by kernel_rfl) (by kernel_rfl) (by kernel_rfl) (fun _ _ _ h => h) (by rfl) (fun W hSw => by obtain ⟨q0, q1⟩ := hSw; go_simp) hS0 ?_
      simp only [Act.put, List.setIfInBounds_toArray, List.set_cons_zero, List.set_cons_succ]
      refine take_at 11 (some 79) (.int .i64 1) rfl rfl (by kernel_rfl) (by kernel_rfl) (by kernel_rfl) (fun _ _ _ h => h) (by rfl) (fun W hSw => by obtain ⟨q0, q1⟩ := hSw; go_simp) hS0 ?_
      simp only [Act.put, List.setIfInBounds_toArray, List.set_cons_zero, List.set_cons_succ]
      refine take_at 12 (some 80) (.int .i64 0) rfl rfl (by kernel_rfl) (by kernel_rfl) (by kernel_rfl) (fun _ _ _ h => h) (by rfl) (fun W hSw => by obtain ⟨q0, q1⟩ := hSw; go_simp; decide) hS0 ?_
      simp only [Act.put, List.setIfInBounds_toArray, List.set_cons_zero, List.set_cons_succ]
      refine take_at 13 (some 81) (.pointer (some ⟨ub, uo, none⟩)) rfl rfl (by kernel_rfl) (by kernel_rfl) (by kernel_rfl) (fun _ _ _ h => h) (by rfl) (fun W hSw => by obtain ⟨q0, q1⟩ := hSw; go_simp) hS0 ?_
      simp only [Act.put, List.setIfInBounds_toArray, List.set_cons_zero, List.set_cons_succ]
      refine take_at 14 (some 82) (.pointer (some ⟨ub, uo + 1, none⟩)) rfl rfl (by kernel_rfl) (by kernel_rfl) (by kernel_rfl) (fun _ _ _ h => h) (by rfl) (fun W hSw => by obtain ⟨q0, q1⟩ := hSw; go_simp) hS0 ?_
      simp only [Act.put, List.setIfInBounds_toArray, List.set_cons_zero, List.set_cons_succ]
      refine take_at 15 (some 83) (.agg #[.bool false, .int .i64 2000000]) rfl rfl (by kernel_rfl) (by kernel_rfl) (by kernel_rfl) (fun _ _ _ h => h) (by rfl) (fun W hSw => by obtain ⟨q0, q1⟩ := hSw; go_simp) hS0 ?_
      simp only [Act.put, List.setIfInBounds_toArray, List.set_cons_zero, List.set_cons_succ]
      refine wpAnyH_ready (rs := [16]) (by kernel_rfl) (by simp) ?_
      refine AllReadyH.cons rfl (fun K hK => ?_) AllReadyH.nil
      go_simp
      refine (kn_of 2 2000000 (by decide +kernel) (r64_lit rfl) _).mono ?_
      rintro e w11 ⟨rfl, hb11⟩
      have hB11 := Below.chain hbd hb11
      have hS1 := HS.out _ hB11
      refine hK.out _ _ hS1 (fun _ => ?_)
      clear hK K
      refine take_at 17 (some 85) (.bool true) rfl rfl (by kernel_rfl) (by kernel_rfl) (by kernel_rfl) (fun _ _ _ h => h) (by rfl) (fun W hSw => by obtain ⟨q0, q1⟩ := hSw; go_simp) hS1 ?_
      simp only [Act.put, List.setIfInBounds_toArray, List.set_cons_zero, List.set_cons_succ]
      refine take_at 18 (some 86) (.bool true) rfl rfl (by kernel_rfl) (by kernel_rfl) (by kernel_rfl) (fun _ _ _ h => h) (by rfl) (fun W hSw => by obtain ⟨q0, q1⟩ := hSw; go_simp) hS1 ?_
      simp only [Act.put, List.setIfInBounds_toArray, List.set_cons_zero, List.set_cons_succ]
      refine take_at 19 (some 4) (.bool true) rfl rfl (by kernel_rfl) (by kernel_rfl) (by kernel_rfl) (fun _ _ _ h => h) (by rfl) (fun W hSw => by obtain ⟨q0, q1⟩ := hSw; go_simp) hS1 ?_
      simp only [Act.put, List.setIfInBounds_toArray, List.set_cons_zero, List.set_cons_succ]
      refine wpAnyH_done (by kernel_rfl) ?_ _
      refine NoPanic.normal ?_
      go_wp2
      go_ret
      exact ⟨rfl, Below.chain hbf hB11⟩
end Go.Proofs.YtjgckfcocmhnhaaGreatDoor.Sr
