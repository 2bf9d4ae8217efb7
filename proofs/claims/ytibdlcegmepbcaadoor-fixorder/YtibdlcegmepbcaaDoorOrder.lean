/- FixOrder: the walk. -/
import Derived.Test.YtibdlcegmepbcaaDoorKnown
import Derived.Test.YtibdlcegmepbcaaDoorSub
import Derived.Deep.CutBlock
namespace Go.Proofs.YtibdlcegmepbcaaDoor
open Go.RowKit

theorem cmp_range (a b : Option Int) : -1 ≤ fCmp a b ∧ fCmp a b ≤ 1 := by
  cases a <;> cases b <;> simp [fCmp]
  split
  · omega
  · split <;> omega
theorem cmp_swap (a b : Option Int) : fCmp b a = -fCmp a b := by
  cases a <;> cases b <;> simp [fCmp]
  rename_i x y
  by_cases h : x = y
  · simp [h]
  · have h' : ¬ y = x := fun e => h e.symm
    by_cases h2 : y < x
    · have h3 : ¬ x < y := by omega
      simp [h, h', h2, h3]
    · have h3 : x < y := by omega
      simp [h, h', h2, h3]
theorem cmp_self (a : Option Int) : fCmp a a = 0 := by cases a <;> simp [fCmp]
theorem cmp_top (a : Option Int) : 0 ≤ fCmp none a := by cases a <;> simp [fCmp]
theorem cmp_trans (a b c : Option Int) (h1 : fCmp a b ≤ 0) (h2 : fCmp b c ≤ 0) : fCmp a c ≤ 0 := by
  cases a <;> cases b <;> cases c <;> simp [fCmp] at *
  rename_i x y z
  have hxy : x ≤ y := by
    by_cases h : x = y
    · omega
    · by_cases h' : y < x
      · simp [h, h'] at h1
      · omega
  have hyz : y ≤ z := by
    by_cases h : y = z
    · omega
    · by_cases h' : z < y
      · simp [h, h'] at h2
      · omega
  by_cases h : x = z
  · simp [h]
  · have h' : ¬ z < x := by omega
    simp [h, h']
theorem cmp_add (a b c : Option Int) (h1 : ov (fAdd a c) = false) (h2 : ov (fAdd b c) = false) : fCmp (fAdd a c) (fAdd b c) = fCmp a b := by
  cases a with
  | none => cases h1
  | some x =>
    cases c with
    | none => cases h1
    | some z =>
      cases b with
      | none => cases h2
      | some y =>
        have e1 : fAdd (some x) (some z) = some (x + z) := by
          show norm _ = _
          have : ov (norm (x + z)) = false := h1
          unfold norm at *
          split
          · rfl
          · rename_i hh
            rw [if_neg hh] at this
            cases this
        have e2 : fAdd (some y) (some z) = some (y + z) := by
          show norm _ = _
          have : ov (norm (y + z)) = false := h2
          unfold norm at *
          split
          · rfl
          · rename_i hh
            rw [if_neg hh] at this
            cases this
        rw [e1, e2]
        show (if x + z = y + z then (0 : Int) else if y + z < x + z then 1 else -1) = if x = y then 0 else if y < x then 1 else -1
        by_cases h : x = y
        · rw [if_pos h, if_pos (by omega)]
        · rw [if_neg h, if_neg (by omega)]
          by_cases h' : y < x
          · rw [if_pos h', if_pos (by omega)]
          · rw [if_neg h', if_neg (by omega)]

set_option maxHeartbeats 4000000 in
theorem order_row (o : Bool) (n : Int) (p : Bool) (m : Int) (q : Bool) (k : Int) (hn : R64 n) (hm : R64 m) (hk : R64 k) (w : World) (ht : Tab Tryd.prog w) :
    Calls Tryd.prog 7 #[.agg #[.bool o, .int .i64 n], .agg #[.bool p, .int .i64 m], .agg #[.bool q, .int .i64 k]] w fun e w' => e = .returned (.bool true) ∧ Below w.heap.size w w' := by
  obtain ⟨hx0, hy0, hz00, hb0⟩ := boxes3 w o p q n m k
  have hz0 : Box _ (w.heap.size + 1 + 1) q k := hz00
  clear hz00
  have cab := fun w => cmp_any o p n m w hn hm
  have cba := fun w => cmp_any p o m n w hm hn
  have caa := fun w => cmp_any o o n n w hn hn
  have coa := fun w => cmp_any true o 0 n w ⟨by decide, by decide⟩ hn
  have cbc := fun w => cmp_any p q m k w hm hk
  have cac := fun w => cmp_any o q n k w hn hk
  have hS := fun w => add_any o q n k w hn hk
  have hT := fun w => add_any p q m k w hm hk
  have hVs : V (fAdd (cnt o n) (cnt q k)) := V.add _ _
  have hVt : V (fAdd (cnt p m) (cnt q k)) := V.add _ _
  have cst := fun w => cmp_any (ov (fAdd (cnt o n) (cnt q k))) (ov (fAdd (cnt p m) (cnt q k))) _ _ w (V.r64 hVs) (V.r64 hVt)
  rw [cnt_val hVs, cnt_val hVt] at cst
  rw [cmp_self] at caa
  have e0 : cnt true 0 = none := rfl
  rw [e0] at coa
  have u1 := cmp_top (cnt o n)
  have rx := cmp_range (cnt o n) (cnt p m)
  have tr := cmp_trans (cnt o n) (cnt p m) (cnt q k)
  have ad := cmp_add (cnt o n) (cnt p m) (cnt q k)
  rw [cmp_swap] at cba
  generalize fCmp (cnt o n) (cnt p m) = x at *
  generalize fCmp (cnt p m) (cnt q k) = y at *
  generalize fCmp (cnt o n) (cnt q k) = z at *
  generalize fCmp none (cnt o n) = u at *
  generalize fAdd (cnt o n) (cnt q k) = s at *
  generalize fAdd (cnt p m) (cnt q k) = t at *
  generalize fCmp s t = v at *
  have TR : Hid _ := tr
  have AD : Hid _ := ad
  have hwx : wrap64 (-x) = -x := by unfold wrap64; omega
  have u2 : ¬ u < 0 := by omega
  clear tr ad hVs hVt
  go_enter Tryd.func7, Tryd.ntmps7
  go_wp2_with fail
  generalize ((w.alloc (.cells #[.bool o, .int .i64 n] 23)).alloc (.cells #[.bool p, .int .i64 m] 23)).alloc (.cells #[.bool q, .int .i64 k] 23) = w0 at *
  refine (known_any _ (ht.later hb0)).mono ?_
  rintro e wk ⟨rfl, hbk⟩
  have hx1 := hx0.later hbk
  have hy1 := hy0.later hbk
  have hz1 := hz0.later hbk
  have hb1 := Below.chain hb0 hbk
  obtain ⟨x0, x1, _, _⟩ := id hx1
  obtain ⟨y0, y1, _, _⟩ := id hy1
  go_wp2_with fail
  refine (cab _).mono ?_
  rintro e w3 ⟨rfl, hb3⟩
  have E3 := bal (Below.refl _ w3) (.cells #[.bool true, .int .i64 0] 23)
  have hx4 := (hx1.later hb3).later E3
  have hy4 := (hy1.later hb3).later E3
  have hz4 := (hz1.later hb3).later E3
  have ho4 := Box.new w3 true 0
  have hb4 := Below.chain (Below.chain hb1 hb3) E3
  clear x0 x1 y0 y1
  go_upto_region 5 with fail
  generalize w3.alloc (.cells #[.bool true, .int .i64 0] 23) = w4 at *
  go_cut [50] from 17 to 49 (fun a wx => a = .bool false ∧ Box wx w.heap.size o n ∧ Box wx (w.heap.size + 1) p m ∧ Box wx (w.heap.size + 1 + 1) q k ∧ Below w.heap.size w wx)
  case first =>
    obtain ⟨x0, x1, _, _⟩ := id hx4
    obtain ⟨y0, y1, _, _⟩ := id hy4
    go_wp2_with fail
    refine (cba _).mono ?_
    rintro e w5 ⟨rfl, hb5⟩
    have hx5 := hx4.later hb5
    obtain ⟨a0, a1, _, _⟩ := id hx5
    go_wp2_with fail
    refine (caa _).mono ?_
    rintro e w6 ⟨rfl, hb6⟩
    have hb56 := Below.chain hb5 hb6
    have hx6 := hx4.later hb56
    have ho6 := ho4.later hb56
    obtain ⟨b0, b1, _, _⟩ := id hx6
    obtain ⟨d0, d1, _, _⟩ := id ho6
    go_wp2_with fail
    refine (coa _).mono ?_
    rintro e w7 ⟨rfl, hb7⟩
    have hb57 := Below.chain hb56 hb7
    have hx7 := hx4.later hb57
    have hy7 := hy4.later hb57
    have hz7 := hz4.later hb57
    obtain ⟨f0, f1, _, _⟩ := id hx7
    obtain ⟨g0, g1, _, _⟩ := id hy7
    obtain ⟨h0, h1, _, _⟩ := id hz7
    by_cases k1 : x ≤ 0
    · go_wp2_with fail
      refine (cbc _).mono ?_
      rintro e w8 ⟨rfl, hb8⟩
      have hb58 := Below.chain hb57 hb8
      have hx8 := hx4.later hb58
      have hz8 := hz4.later hb58
      obtain ⟨j0, j1, _, _⟩ := id hx8
      obtain ⟨l0, l1, _, _⟩ := id hz8
      by_cases k2 : y ≤ 0
      · have k3 : ¬ 0 < z := by have := TR.out k1 k2; omega
        go_wp2_with fail
        refine (cac _).mono ?_
        rintro e w9 ⟨rfl, hb9⟩
        have hb59 := Below.chain hb58 hb9
        go_wp2_with fail
        go_meet
        exact ⟨congrArg Value.bool (by simp; omega), hx4.later hb59, hy4.later hb59, hz4.later hb59, Below.chain hb4 hb59⟩
      · have k2' : ¬ y ≤ 0 := k2
        go_wp2_with fail
        go_meet
        exact ⟨congrArg Value.bool (by simp; omega), hx8, hy4.later hb58, hz8, Below.chain hb4 hb58⟩
    · have k1' : ¬ x ≤ 0 := k1
      go_wp2_with fail
      go_meet
      exact ⟨congrArg Value.bool (by simp; omega), hx7, hy7, hz7, Below.chain hb4 hb57⟩
  case rest =>
    obtain ⟨rfl, hx, hy, hz, hb⟩ := hcut
    clear hx4 hy4 hz4 ho4 hb4 hb3 E3
    go_upto_region 7 with fail
    generalize wc = w1 at *
    go_cut [9, 10] from 51 to 56 (fun a b wx => ∃ b9 b10 : Nat, a = .pointer (some ⟨b9, 0, none⟩) ∧ b = .pointer (some ⟨b10, 0, none⟩) ∧ Box wx b9 (ov s) (nn s) ∧ Box wx b10 (ov t) (nn t) ∧ Below w.heap.size w wx)
    case first =>
      have m0 := hx.at0
      have m1 := hx.at1
      have m2 := hy.at0
      have m3 := hy.at1
      have m4 := hz.at0
      have m5 := hz.at1
      refine wp_region_noPanic ?_
      refine wp_region_held_drew (S := fun W => Below w1.heap.size w1 W) (by kernel_rfl) ?_ (fun _ => ?_)
      · exact (Below.refl _ _).drew
      have B2 : Below w1.heap.size w1 w1.drew := (Below.refl _ _).drew
      have HL2 : Hid (w1.heap.size = w1.drew.heap.size) := rfl
      generalize w1.drew = w2 at *
      refine take_at 0 (some 51) (.agg #[.bool o, .int .i64 n]) rfl rfl (by kernel_rfl) (by kernel_rfl) (by kernel_rfl) (fun _ _ _ h => h) (by rfl) (fun W hSw => by go_simp) B2 ?_
      simp only [Act.put, List.setIfInBounds_toArray, List.set_cons_zero, List.set_cons_succ]
      refine take_at 1 (some 52) (.agg #[.bool q, .int .i64 k]) rfl rfl (by kernel_rfl) (by kernel_rfl) (by kernel_rfl) (fun _ _ _ h => h) (by rfl) (fun W hSw => by go_simp) B2 ?_
      simp only [Act.put, List.setIfInBounds_toArray, List.set_cons_zero, List.set_cons_succ]
      refine take_at 3 (some 54) (.agg #[.bool p, .int .i64 m]) rfl rfl (by kernel_rfl) (by kernel_rfl) (by kernel_rfl) (fun _ _ _ h => h) (by rfl) (fun W hSw => by go_simp) B2 ?_
      simp only [Act.put, List.setIfInBounds_toArray, List.set_cons_zero, List.set_cons_succ]
      refine take_at 4 (some 55) (.agg #[.bool q, .int .i64 k]) rfl rfl (by kernel_rfl) (by kernel_rfl) (by kernel_rfl) (fun _ _ _ h => h) (by rfl) (fun W hSw => by go_simp) B2 ?_
      simp only [Act.put, List.setIfInBounds_toArray, List.set_cons_zero, List.set_cons_succ]
      refine wpAnyH_ready (rs := [2, 6, 7]) (by kernel_rfl) (by simp) ?_
      refine AllReadyH.cons rfl (fun K hK => ?_) (AllReadyH.cons rfl (fun K hK => ?_) (AllReadyH.cons rfl (fun K hK => ?_) AllReadyH.nil))
      · go_simp
        refine (hS _).mono ?_
        rintro e w3 ⟨rfl, hb3⟩
        have B3 := Below.chain B2 hb3
        refine hK.out _ _ ?_ (fun _ => ?_)
        · exact B3
        clear hK K
        have HL3 : Hid _ := hb3.size
        refine wpAnyH_ready (rs := [5, 6, 7]) (by kernel_rfl) (by simp) ?_
        refine AllReadyH.cons rfl (fun K hK => ?_) (AllReadyH.cons rfl (fun K hK => ?_) (AllReadyH.cons rfl (fun K hK => ?_) AllReadyH.nil))
        · go_simp
          refine (hT _).mono ?_
          rintro e w4 ⟨rfl, hb4⟩
          have B4 := Below.chain B3 hb4
          refine hK.out _ _ ?_ (fun _ => ?_)
          · exact B4
          clear hK K
          have HL4 : Hid _ := hb4.size
          refine wpAnyH_ready (rs := [6, 7]) (by kernel_rfl) (by simp) ?_
          refine AllReadyH.cons rfl (fun K hK => ?_) (AllReadyH.cons rfl (fun K hK => ?_) AllReadyH.nil)
          · go_simp
            have g6_5 := Box.new w4 false 0
            have E5 := bal (Below.refl _ w4) (.cells #[.bool false, .int .i64 0] 23)
            have B5 := Below.chain B4 E5
            refine hK.out _ _ ?_ (fun _ => ?_)
            · exact B5
            clear hK K
            have HL5 : Hid (w4.heap.size + 1 = (w4.alloc (.cells #[.bool false, .int .i64 0] 23)).heap.size) := by show _ = _; simp
            generalize w4.alloc (.cells #[.bool false, .int .i64 0] 23) = w5 at *
            refine wpAnyH_ready (rs := [7]) (by kernel_rfl) (by simp) ?_
            refine AllReadyH.cons rfl (fun K hK => ?_) AllReadyH.nil
            go_simp
            have g7_6 := Box.new w5 false 0
            have E6 := bal (Below.refl _ w5) (.cells #[.bool false, .int .i64 0] 23)
            have B6 := Below.chain B5 E6
            have g6_6 := g6_5.later E6
            refine hK.out _ _ ?_ (fun _ => ?_)
            · exact B6
            clear hK K
            have HL6 : Hid (w5.heap.size + 1 = (w5.alloc (.cells #[.bool false, .int .i64 0] 23)).heap.size) := by show _ = _; simp
            generalize w5.alloc (.cells #[.bool false, .int .i64 0] 23) = w6 at *
            have hne : w4.heap.size ≠ w5.heap.size := by have := HL2.out; have := HL3.out; have := HL4.out; have := HL5.out; have := HL6.out; omega
            have hle9 : w1.heap.size ≤ w4.heap.size := by have := HL2.out; have := HL3.out; have := HL4.out; have := HL5.out; have := HL6.out; omega
            have hle10 : w1.heap.size ≤ w5.heap.size := by have := HL2.out; have := HL3.out; have := HL4.out; have := HL5.out; have := HL6.out; omega
            have q9 := g6_6.put (p := ov s) (m := nn s)
            have q10 := g7_6.put_other (a := w4.heap.size) (p := ov s) (m := nn s) hne
            have D1 := put2 B6 (b := w4.heap.size) hle9 (ov s) (nn s)
            have c0 := g6_6.c0
            have c1 := g6_6.c1
            have f0 := g6_6.f0
            have f1 := g6_6.f1
            refine wpAnyH_ready (rs := [8]) (by kernel_rfl) (by simp) ?_
            refine AllReadyH.cons rfl (fun K hK => ?_) AllReadyH.nil
            go_simp
            refine hK.out _ _ ?_ (fun _ => ?_)
            · exact D1
            clear hK K
            clear c0 c1 f0 f1
            have q9' := q9.put_other (a := w5.heap.size) (p := ov t) (m := nn t) (Ne.symm hne)
            have q10' := q10.put (p := ov t) (m := nn t)
            have D2 := put2 D1 (b := w5.heap.size) hle10 (ov t) (nn t)
            have c0 := q10.c0
            have c1 := q10.c1
            have f0 := q10.f0
            have f1 := q10.f1
            refine wpAnyH_ready (rs := [9]) (by kernel_rfl) (by simp) ?_
            refine AllReadyH.cons rfl (fun K hK => ?_) AllReadyH.nil
            go_simp
            refine hK.out _ _ ?_ (fun _ => ?_)
            · exact D2
            clear hK K
            clear c0 c1 f0 f1
            refine wpAnyH_done (by kernel_rfl) ?_ _
            refine NoPanic.normal ?_
            go_wp2_with fail
            go_meet
            exact ⟨_, _, rfl, rfl, q9', q10', Below.chain hb D2⟩
          · go_simp
            have g7_5 := Box.new w4 false 0
            have E5 := bal (Below.refl _ w4) (.cells #[.bool false, .int .i64 0] 23)
            have B5 := Below.chain B4 E5
            refine hK.out _ _ ?_ (fun _ => ?_)
            · exact B5
            clear hK K
            have HL5 : Hid (w4.heap.size + 1 = (w4.alloc (.cells #[.bool false, .int .i64 0] 23)).heap.size) := by show _ = _; simp
            generalize w4.alloc (.cells #[.bool false, .int .i64 0] 23) = w5 at *
            refine wpAnyH_ready (rs := [6]) (by kernel_rfl) (by simp) ?_
            refine AllReadyH.cons rfl (fun K hK => ?_) AllReadyH.nil
            go_simp
            have g6_6 := Box.new w5 false 0
            have E6 := bal (Below.refl _ w5) (.cells #[.bool false, .int .i64 0] 23)
            have B6 := Below.chain B5 E6
            have g7_6 := g7_5.later E6
            refine hK.out _ _ ?_ (fun _ => ?_)
            · exact B6
            clear hK K
            have HL6 : Hid (w5.heap.size + 1 = (w5.alloc (.cells #[.bool false, .int .i64 0] 23)).heap.size) := by show _ = _; simp
            generalize w5.alloc (.cells #[.bool false, .int .i64 0] 23) = w6 at *
            have hne : w5.heap.size ≠ w4.heap.size := by have := HL2.out; have := HL3.out; have := HL4.out; have := HL5.out; have := HL6.out; omega
            have hle9 : w1.heap.size ≤ w5.heap.size := by have := HL2.out; have := HL3.out; have := HL4.out; have := HL5.out; have := HL6.out; omega
            have hle10 : w1.heap.size ≤ w4.heap.size := by have := HL2.out; have := HL3.out; have := HL4.out; have := HL5.out; have := HL6.out; omega
            have q9 := g6_6.put (p := ov s) (m := nn s)
            have q10 := g7_6.put_other (a := w5.heap.size) (p := ov s) (m := nn s) hne
            have D1 := put2 B6 (b := w5.heap.size) hle9 (ov s) (nn s)
            have c0 := g6_6.c0
            have c1 := g6_6.c1
            have f0 := g6_6.f0
            have f1 := g6_6.f1
            refine wpAnyH_ready (rs := [8]) (by kernel_rfl) (by simp) ?_
            refine AllReadyH.cons rfl (fun K hK => ?_) AllReadyH.nil
            go_simp
            refine hK.out _ _ ?_ (fun _ => ?_)
            · exact D1
            clear hK K
            clear c0 c1 f0 f1
            have q9' := q9.put_other (a := w4.heap.size) (p := ov t) (m := nn t) (Ne.symm hne)
            have q10' := q10.put (p := ov t) (m := nn t)
            have D2 := put2 D1 (b := w4.heap.size) hle10 (ov t) (nn t)
            have c0 := q10.c0
            have c1 := q10.c1
            have f0 := q10.f0
            have f1 := q10.f1
            refine wpAnyH_ready (rs := [9]) (by kernel_rfl) (by simp) ?_
            refine AllReadyH.cons rfl (fun K hK => ?_) AllReadyH.nil
            go_simp
            refine hK.out _ _ ?_ (fun _ => ?_)
            · exact D2
            clear hK K
            clear c0 c1 f0 f1
            refine wpAnyH_done (by kernel_rfl) ?_ _
            refine NoPanic.normal ?_
            go_wp2_with fail
            go_meet
            exact ⟨_, _, rfl, rfl, q9', q10', Below.chain hb D2⟩
        · go_simp
          have g6_4 := Box.new w3 false 0
          have E4 := bal (Below.refl _ w3) (.cells #[.bool false, .int .i64 0] 23)
          have B4 := Below.chain B3 E4
          refine hK.out _ _ ?_ (fun _ => ?_)
          · exact B4
          clear hK K
          have HL4 : Hid (w3.heap.size + 1 = (w3.alloc (.cells #[.bool false, .int .i64 0] 23)).heap.size) := by show _ = _; simp
          generalize w3.alloc (.cells #[.bool false, .int .i64 0] 23) = w4 at *
          refine wpAnyH_ready (rs := [5, 7]) (by kernel_rfl) (by simp) ?_
          refine AllReadyH.cons rfl (fun K hK => ?_) (AllReadyH.cons rfl (fun K hK => ?_) AllReadyH.nil)
          · go_simp
            refine (hT _).mono ?_
            rintro e w5 ⟨rfl, hb5⟩
            have B5 := Below.chain B4 hb5
            refine hK.out _ _ ?_ (fun _ => ?_)
            · exact B5
            clear hK K
            have g6_5 := g6_4.later hb5
            have HL5 : Hid _ := hb5.size
            refine wpAnyH_ready (rs := [7]) (by kernel_rfl) (by simp) ?_
            refine AllReadyH.cons rfl (fun K hK => ?_) AllReadyH.nil
            go_simp
            have g7_6 := Box.new w5 false 0
            have E6 := bal (Below.refl _ w5) (.cells #[.bool false, .int .i64 0] 23)
            have B6 := Below.chain B5 E6
            have g6_6 := g6_5.later E6
            refine hK.out _ _ ?_ (fun _ => ?_)
            · exact B6
            clear hK K
            have HL6 : Hid (w5.heap.size + 1 = (w5.alloc (.cells #[.bool false, .int .i64 0] 23)).heap.size) := by show _ = _; simp
            generalize w5.alloc (.cells #[.bool false, .int .i64 0] 23) = w6 at *
            have hne : w3.heap.size ≠ w5.heap.size := by have := HL2.out; have := HL3.out; have := HL4.out; have := HL5.out; have := HL6.out; omega
            have hle9 : w1.heap.size ≤ w3.heap.size := by have := HL2.out; have := HL3.out; have := HL4.out; have := HL5.out; have := HL6.out; omega
            have hle10 : w1.heap.size ≤ w5.heap.size := by have := HL2.out; have := HL3.out; have := HL4.out; have := HL5.out; have := HL6.out; omega
            have q9 := g6_6.put (p := ov s) (m := nn s)
            have q10 := g7_6.put_other (a := w3.heap.size) (p := ov s) (m := nn s) hne
            have D1 := put2 B6 (b := w3.heap.size) hle9 (ov s) (nn s)
            have c0 := g6_6.c0
            have c1 := g6_6.c1
            have f0 := g6_6.f0
            have f1 := g6_6.f1
            refine wpAnyH_ready (rs := [8]) (by kernel_rfl) (by simp) ?_
            refine AllReadyH.cons rfl (fun K hK => ?_) AllReadyH.nil
            go_simp
            refine hK.out _ _ ?_ (fun _ => ?_)
            · exact D1
            clear hK K
            clear c0 c1 f0 f1
            have q9' := q9.put_other (a := w5.heap.size) (p := ov t) (m := nn t) (Ne.symm hne)
            have q10' := q10.put (p := ov t) (m := nn t)
            have D2 := put2 D1 (b := w5.heap.size) hle10 (ov t) (nn t)
            have c0 := q10.c0
            have c1 := q10.c1
            have f0 := q10.f0
            have f1 := q10.f1
            refine wpAnyH_ready (rs := [9]) (by kernel_rfl) (by simp) ?_
            refine AllReadyH.cons rfl (fun K hK => ?_) AllReadyH.nil
            go_simp
            refine hK.out _ _ ?_ (fun _ => ?_)
            · exact D2
            clear hK K
            clear c0 c1 f0 f1
            refine wpAnyH_done (by kernel_rfl) ?_ _
            refine NoPanic.normal ?_
            go_wp2_with fail
            go_meet
            exact ⟨_, _, rfl, rfl, q9', q10', Below.chain hb D2⟩
          · go_simp
            have g7_5 := Box.new w4 false 0
            have E5 := bal (Below.refl _ w4) (.cells #[.bool false, .int .i64 0] 23)
            have B5 := Below.chain B4 E5
            have g6_5 := g6_4.later E5
            refine hK.out _ _ ?_ (fun _ => ?_)
            · exact B5
            clear hK K
            have HL5 : Hid (w4.heap.size + 1 = (w4.alloc (.cells #[.bool false, .int .i64 0] 23)).heap.size) := by show _ = _; simp
            generalize w4.alloc (.cells #[.bool false, .int .i64 0] 23) = w5 at *
            refine wpAnyH_ready (rs := [5]) (by kernel_rfl) (by simp) ?_
            refine AllReadyH.cons rfl (fun K hK => ?_) AllReadyH.nil
            go_simp
            refine (hT _).mono ?_
            rintro e w6 ⟨rfl, hb6⟩
            have B6 := Below.chain B5 hb6
            refine hK.out _ _ ?_ (fun _ => ?_)
            · exact B6
            clear hK K
            have g6_6 := g6_5.later hb6
            have g7_6 := g7_5.later hb6
            have HL6 : Hid _ := hb6.size
            have hne : w3.heap.size ≠ w4.heap.size := by have := HL2.out; have := HL3.out; have := HL4.out; have := HL5.out; have := HL6.out; omega
            have hle9 : w1.heap.size ≤ w3.heap.size := by have := HL2.out; have := HL3.out; have := HL4.out; have := HL5.out; have := HL6.out; omega
            have hle10 : w1.heap.size ≤ w4.heap.size := by have := HL2.out; have := HL3.out; have := HL4.out; have := HL5.out; have := HL6.out; omega
            have q9 := g6_6.put (p := ov s) (m := nn s)
            have q10 := g7_6.put_other (a := w3.heap.size) (p := ov s) (m := nn s) hne
            have D1 := put2 B6 (b := w3.heap.size) hle9 (ov s) (nn s)
            have c0 := g6_6.c0
            have c1 := g6_6.c1
            have f0 := g6_6.f0
            have f1 := g6_6.f1
            refine wpAnyH_ready (rs := [8]) (by kernel_rfl) (by simp) ?_
            refine AllReadyH.cons rfl (fun K hK => ?_) AllReadyH.nil
            go_simp
            refine hK.out _ _ ?_ (fun _ => ?_)
            · exact D1
            clear hK K
            clear c0 c1 f0 f1
            have q9' := q9.put_other (a := w4.heap.size) (p := ov t) (m := nn t) (Ne.symm hne)
            have q10' := q10.put (p := ov t) (m := nn t)
            have D2 := put2 D1 (b := w4.heap.size) hle10 (ov t) (nn t)
            have c0 := q10.c0
            have c1 := q10.c1
            have f0 := q10.f0
            have f1 := q10.f1
            refine wpAnyH_ready (rs := [9]) (by kernel_rfl) (by simp) ?_
            refine AllReadyH.cons rfl (fun K hK => ?_) AllReadyH.nil
            go_simp
            refine hK.out _ _ ?_ (fun _ => ?_)
            · exact D2
            clear hK K
            clear c0 c1 f0 f1
            refine wpAnyH_done (by kernel_rfl) ?_ _
            refine NoPanic.normal ?_
            go_wp2_with fail
            go_meet
            exact ⟨_, _, rfl, rfl, q9', q10', Below.chain hb D2⟩
        · go_simp
          have g7_4 := Box.new w3 false 0
          have E4 := bal (Below.refl _ w3) (.cells #[.bool false, .int .i64 0] 23)
          have B4 := Below.chain B3 E4
          refine hK.out _ _ ?_ (fun _ => ?_)
          · exact B4
          clear hK K
          have HL4 : Hid (w3.heap.size + 1 = (w3.alloc (.cells #[.bool false, .int .i64 0] 23)).heap.size) := by show _ = _; simp
          generalize w3.alloc (.cells #[.bool false, .int .i64 0] 23) = w4 at *
          refine wpAnyH_ready (rs := [5, 6]) (by kernel_rfl) (by simp) ?_
          refine AllReadyH.cons rfl (fun K hK => ?_) (AllReadyH.cons rfl (fun K hK => ?_) AllReadyH.nil)
          · go_simp
            refine (hT _).mono ?_
            rintro e w5 ⟨rfl, hb5⟩
            have B5 := Below.chain B4 hb5
            refine hK.out _ _ ?_ (fun _ => ?_)
            · exact B5
            clear hK K
            have g7_5 := g7_4.later hb5
            have HL5 : Hid _ := hb5.size
            refine wpAnyH_ready (rs := [6]) (by kernel_rfl) (by simp) ?_
            refine AllReadyH.cons rfl (fun K hK => ?_) AllReadyH.nil
            go_simp
            have g6_6 := Box.new w5 false 0
            have E6 := bal (Below.refl _ w5) (.cells #[.bool false, .int .i64 0] 23)
            have B6 := Below.chain B5 E6
            have g7_6 := g7_5.later E6
            refine hK.out _ _ ?_ (fun _ => ?_)
            · exact B6
            clear hK K
            have HL6 : Hid (w5.heap.size + 1 = (w5.alloc (.cells #[.bool false, .int .i64 0] 23)).heap.size) := by show _ = _; simp
            generalize w5.alloc (.cells #[.bool false, .int .i64 0] 23) = w6 at *
            have hne : w5.heap.size ≠ w3.heap.size := by have := HL2.out; have := HL3.out; have := HL4.out; have := HL5.out; have := HL6.out; omega
            have hle9 : w1.heap.size ≤ w5.heap.size := by have := HL2.out; have := HL3.out; have := HL4.out; have := HL5.out; have := HL6.out; omega
            have hle10 : w1.heap.size ≤ w3.heap.size := by have := HL2.out; have := HL3.out; have := HL4.out; have := HL5.out; have := HL6.out; omega
            have q9 := g6_6.put (p := ov s) (m := nn s)
            have q10 := g7_6.put_other (a := w5.heap.size) (p := ov s) (m := nn s) hne
            have D1 := put2 B6 (b := w5.heap.size) hle9 (ov s) (nn s)
            have c0 := g6_6.c0
            have c1 := g6_6.c1
            have f0 := g6_6.f0
            have f1 := g6_6.f1
            refine wpAnyH_ready (rs := [8]) (by kernel_rfl) (by simp) ?_
            refine AllReadyH.cons rfl (fun K hK => ?_) AllReadyH.nil
            go_simp
            refine hK.out _ _ ?_ (fun _ => ?_)
            · exact D1
            clear hK K
            clear c0 c1 f0 f1
            have q9' := q9.put_other (a := w3.heap.size) (p := ov t) (m := nn t) (Ne.symm hne)
            have q10' := q10.put (p := ov t) (m := nn t)
            have D2 := put2 D1 (b := w3.heap.size) hle10 (ov t) (nn t)
            have c0 := q10.c0
            have c1 := q10.c1
            have f0 := q10.f0
            have f1 := q10.f1
            refine wpAnyH_ready (rs := [9]) (by kernel_rfl) (by simp) ?_
            refine AllReadyH.cons rfl (fun K hK => ?_) AllReadyH.nil
            go_simp
            refine hK.out _ _ ?_ (fun _ => ?_)
            · exact D2
            clear hK K
            clear c0 c1 f0 f1
            refine wpAnyH_done (by kernel_rfl) ?_ _
            refine NoPanic.normal ?_
            go_wp2_with fail
            go_meet
            exact ⟨_, _, rfl, rfl, q9', q10', Below.chain hb D2⟩
          · go_simp
            have g6_5 := Box.new w4 false 0
            have E5 := bal (Below.refl _ w4) (.cells #[.bool false, .int .i64 0] 23)
            have B5 := Below.chain B4 E5
            have g7_5 := g7_4.later E5
            refine hK.out _ _ ?_ (fun _ => ?_)
            · exact B5
            clear hK K
            have HL5 : Hid (w4.heap.size + 1 = (w4.alloc (.cells #[.bool false, .int .i64 0] 23)).heap.size) := by show _ = _; simp
            generalize w4.alloc (.cells #[.bool false, .int .i64 0] 23) = w5 at *
            refine wpAnyH_ready (rs := [5]) (by kernel_rfl) (by simp) ?_
            refine AllReadyH.cons rfl (fun K hK => ?_) AllReadyH.nil
            go_simp
            refine (hT _).mono ?_
            rintro e w6 ⟨rfl, hb6⟩
            have B6 := Below.chain B5 hb6
            refine hK.out _ _ ?_ (fun _ => ?_)
            · exact B6
            clear hK K
            have g6_6 := g6_5.later hb6
            have g7_6 := g7_5.later hb6
            have HL6 : Hid _ := hb6.size
            have hne : w4.heap.size ≠ w3.heap.size := by have := HL2.out; have := HL3.out; have := HL4.out; have := HL5.out; have := HL6.out; omega
            have hle9 : w1.heap.size ≤ w4.heap.size := by have := HL2.out; have := HL3.out; have := HL4.out; have := HL5.out; have := HL6.out; omega
            have hle10 : w1.heap.size ≤ w3.heap.size := by have := HL2.out; have := HL3.out; have := HL4.out; have := HL5.out; have := HL6.out; omega
            have q9 := g6_6.put (p := ov s) (m := nn s)
            have q10 := g7_6.put_other (a := w4.heap.size) (p := ov s) (m := nn s) hne
            have D1 := put2 B6 (b := w4.heap.size) hle9 (ov s) (nn s)
            have c0 := g6_6.c0
            have c1 := g6_6.c1
            have f0 := g6_6.f0
            have f1 := g6_6.f1
            refine wpAnyH_ready (rs := [8]) (by kernel_rfl) (by simp) ?_
            refine AllReadyH.cons rfl (fun K hK => ?_) AllReadyH.nil
            go_simp
            refine hK.out _ _ ?_ (fun _ => ?_)
            · exact D1
            clear hK K
            clear c0 c1 f0 f1
            have q9' := q9.put_other (a := w3.heap.size) (p := ov t) (m := nn t) (Ne.symm hne)
            have q10' := q10.put (p := ov t) (m := nn t)
            have D2 := put2 D1 (b := w3.heap.size) hle10 (ov t) (nn t)
            have c0 := q10.c0
            have c1 := q10.c1
            have f0 := q10.f0
            have f1 := q10.f1
            refine wpAnyH_ready (rs := [9]) (by kernel_rfl) (by simp) ?_
            refine AllReadyH.cons rfl (fun K hK => ?_) AllReadyH.nil
            go_simp
            refine hK.out _ _ ?_ (fun _ => ?_)
            · exact D2
            clear hK K
            clear c0 c1 f0 f1
            refine wpAnyH_done (by kernel_rfl) ?_ _
            refine NoPanic.normal ?_
            go_wp2_with fail
            go_meet
            exact ⟨_, _, rfl, rfl, q9', q10', Below.chain hb D2⟩
      · go_simp
        have g6_3 := Box.new w2 false 0
        have E3 := bal (Below.refl _ w2) (.cells #[.bool false, .int .i64 0] 23)
        have B3 := Below.chain B2 E3
        refine hK.out _ _ ?_ (fun _ => ?_)
        · exact B3
        clear hK K
        have HL3 : Hid (w2.heap.size + 1 = (w2.alloc (.cells #[.bool false, .int .i64 0] 23)).heap.size) := by show _ = _; simp
        generalize w2.alloc (.cells #[.bool false, .int .i64 0] 23) = w3 at *
        refine wpAnyH_ready (rs := [2, 7]) (by kernel_rfl) (by simp) ?_
        refine AllReadyH.cons rfl (fun K hK => ?_) (AllReadyH.cons rfl (fun K hK => ?_) AllReadyH.nil)
        · go_simp
          refine (hS _).mono ?_
          rintro e w4 ⟨rfl, hb4⟩
          have B4 := Below.chain B3 hb4
          refine hK.out _ _ ?_ (fun _ => ?_)
          · exact B4
          clear hK K
          have g6_4 := g6_3.later hb4
          have HL4 : Hid _ := hb4.size
          refine wpAnyH_ready (rs := [5, 7]) (by kernel_rfl) (by simp) ?_
          refine AllReadyH.cons rfl (fun K hK => ?_) (AllReadyH.cons rfl (fun K hK => ?_) AllReadyH.nil)
          · go_simp
            refine (hT _).mono ?_
            rintro e w5 ⟨rfl, hb5⟩
            have B5 := Below.chain B4 hb5
            refine hK.out _ _ ?_ (fun _ => ?_)
            · exact B5
            clear hK K
            have g6_5 := g6_4.later hb5
            have HL5 : Hid _ := hb5.size
            refine wpAnyH_ready (rs := [7]) (by kernel_rfl) (by simp) ?_
            refine AllReadyH.cons rfl (fun K hK => ?_) AllReadyH.nil
            go_simp
            have g7_6 := Box.new w5 false 0
            have E6 := bal (Below.refl _ w5) (.cells #[.bool false, .int .i64 0] 23)
            have B6 := Below.chain B5 E6
            have g6_6 := g6_5.later E6
            refine hK.out _ _ ?_ (fun _ => ?_)
            · exact B6
            clear hK K
            have HL6 : Hid (w5.heap.size + 1 = (w5.alloc (.cells #[.bool false, .int .i64 0] 23)).heap.size) := by show _ = _; simp
            generalize w5.alloc (.cells #[.bool false, .int .i64 0] 23) = w6 at *
            have hne : w2.heap.size ≠ w5.heap.size := by have := HL2.out; have := HL3.out; have := HL4.out; have := HL5.out; have := HL6.out; omega
            have hle9 : w1.heap.size ≤ w2.heap.size := by have := HL2.out; have := HL3.out; have := HL4.out; have := HL5.out; have := HL6.out; omega
            have hle10 : w1.heap.size ≤ w5.heap.size := by have := HL2.out; have := HL3.out; have := HL4.out; have := HL5.out; have := HL6.out; omega
            have q9 := g6_6.put (p := ov s) (m := nn s)
            have q10 := g7_6.put_other (a := w2.heap.size) (p := ov s) (m := nn s) hne
            have D1 := put2 B6 (b := w2.heap.size) hle9 (ov s) (nn s)
            have c0 := g6_6.c0
            have c1 := g6_6.c1
            have f0 := g6_6.f0
            have f1 := g6_6.f1
            refine wpAnyH_ready (rs := [8]) (by kernel_rfl) (by simp) ?_
            refine AllReadyH.cons rfl (fun K hK => ?_) AllReadyH.nil
            go_simp
            refine hK.out _ _ ?_ (fun _ => ?_)
            · exact D1
            clear hK K
            clear c0 c1 f0 f1
            have q9' := q9.put_other (a := w5.heap.size) (p := ov t) (m := nn t) (Ne.symm hne)
            have q10' := q10.put (p := ov t) (m := nn t)
            have D2 := put2 D1 (b := w5.heap.size) hle10 (ov t) (nn t)
            have c0 := q10.c0
            have c1 := q10.c1
            have f0 := q10.f0
            have f1 := q10.f1
            refine wpAnyH_ready (rs := [9]) (by kernel_rfl) (by simp) ?_
            refine AllReadyH.cons rfl (fun K hK => ?_) AllReadyH.nil
            go_simp
            refine hK.out _ _ ?_ (fun _ => ?_)
            · exact D2
            clear hK K
            clear c0 c1 f0 f1
            refine wpAnyH_done (by kernel_rfl) ?_ _
            refine NoPanic.normal ?_
            go_wp2_with fail
            go_meet
            exact ⟨_, _, rfl, rfl, q9', q10', Below.chain hb D2⟩
          · go_simp
            have g7_5 := Box.new w4 false 0
            have E5 := bal (Below.refl _ w4) (.cells #[.bool false, .int .i64 0] 23)
            have B5 := Below.chain B4 E5
            have g6_5 := g6_4.later E5
            refine hK.out _ _ ?_ (fun _ => ?_)
            · exact B5
            clear hK K
            have HL5 : Hid (w4.heap.size + 1 = (w4.alloc (.cells #[.bool false, .int .i64 0] 23)).heap.size) := by show _ = _; simp
            generalize w4.alloc (.cells #[.bool false, .int .i64 0] 23) = w5 at *
            refine wpAnyH_ready (rs := [5]) (by kernel_rfl) (by simp) ?_
            refine AllReadyH.cons rfl (fun K hK => ?_) AllReadyH.nil
            go_simp
            refine (hT _).mono ?_
            rintro e w6 ⟨rfl, hb6⟩
            have B6 := Below.chain B5 hb6
            refine hK.out _ _ ?_ (fun _ => ?_)
            · exact B6
            clear hK K
            have g6_6 := g6_5.later hb6
            have g7_6 := g7_5.later hb6
            have HL6 : Hid _ := hb6.size
            have hne : w2.heap.size ≠ w4.heap.size := by have := HL2.out; have := HL3.out; have := HL4.out; have := HL5.out; have := HL6.out; omega
            have hle9 : w1.heap.size ≤ w2.heap.size := by have := HL2.out; have := HL3.out; have := HL4.out; have := HL5.out; have := HL6.out; omega
            have hle10 : w1.heap.size ≤ w4.heap.size := by have := HL2.out; have := HL3.out; have := HL4.out; have := HL5.out; have := HL6.out; omega
            have q9 := g6_6.put (p := ov s) (m := nn s)
            have q10 := g7_6.put_other (a := w2.heap.size) (p := ov s) (m := nn s) hne
            have D1 := put2 B6 (b := w2.heap.size) hle9 (ov s) (nn s)
            have c0 := g6_6.c0
            have c1 := g6_6.c1
            have f0 := g6_6.f0
            have f1 := g6_6.f1
            refine wpAnyH_ready (rs := [8]) (by kernel_rfl) (by simp) ?_
            refine AllReadyH.cons rfl (fun K hK => ?_) AllReadyH.nil
            go_simp
            refine hK.out _ _ ?_ (fun _ => ?_)
            · exact D1
            clear hK K
            clear c0 c1 f0 f1
            have q9' := q9.put_other (a := w4.heap.size) (p := ov t) (m := nn t) (Ne.symm hne)
            have q10' := q10.put (p := ov t) (m := nn t)
            have D2 := put2 D1 (b := w4.heap.size) hle10 (ov t) (nn t)
            have c0 := q10.c0
            have c1 := q10.c1
            have f0 := q10.f0
            have f1 := q10.f1
            refine wpAnyH_ready (rs := [9]) (by kernel_rfl) (by simp) ?_
            refine AllReadyH.cons rfl (fun K hK => ?_) AllReadyH.nil
            go_simp
            refine hK.out _ _ ?_ (fun _ => ?_)
            · exact D2
            clear hK K
            clear c0 c1 f0 f1
            refine wpAnyH_done (by kernel_rfl) ?_ _
            refine NoPanic.normal ?_
            go_wp2_with fail
            go_meet
            exact ⟨_, _, rfl, rfl, q9', q10', Below.chain hb D2⟩
        · go_simp
          have g7_4 := Box.new w3 false 0
          have E4 := bal (Below.refl _ w3) (.cells #[.bool false, .int .i64 0] 23)
          have B4 := Below.chain B3 E4
          have g6_4 := g6_3.later E4
          refine hK.out _ _ ?_ (fun _ => ?_)
          · exact B4
          clear hK K
          have HL4 : Hid (w3.heap.size + 1 = (w3.alloc (.cells #[.bool false, .int .i64 0] 23)).heap.size) := by show _ = _; simp
          generalize w3.alloc (.cells #[.bool false, .int .i64 0] 23) = w4 at *
          refine wpAnyH_ready (rs := [2]) (by kernel_rfl) (by simp) ?_
          refine AllReadyH.cons rfl (fun K hK => ?_) AllReadyH.nil
          go_simp
          refine (hS _).mono ?_
          rintro e w5 ⟨rfl, hb5⟩
          have B5 := Below.chain B4 hb5
          refine hK.out _ _ ?_ (fun _ => ?_)
          · exact B5
          clear hK K
          have g6_5 := g6_4.later hb5
          have g7_5 := g7_4.later hb5
          have HL5 : Hid _ := hb5.size
          refine wpAnyH_ready (rs := [5]) (by kernel_rfl) (by simp) ?_
          refine AllReadyH.cons rfl (fun K hK => ?_) AllReadyH.nil
          go_simp
          refine (hT _).mono ?_
          rintro e w6 ⟨rfl, hb6⟩
          have B6 := Below.chain B5 hb6
          refine hK.out _ _ ?_ (fun _ => ?_)
          · exact B6
          clear hK K
          have g6_6 := g6_5.later hb6
          have g7_6 := g7_5.later hb6
          have HL6 : Hid _ := hb6.size
          have hne : w2.heap.size ≠ w3.heap.size := by have := HL2.out; have := HL3.out; have := HL4.out; have := HL5.out; have := HL6.out; omega
          have hle9 : w1.heap.size ≤ w2.heap.size := by have := HL2.out; have := HL3.out; have := HL4.out; have := HL5.out; have := HL6.out; omega
          have hle10 : w1.heap.size ≤ w3.heap.size := by have := HL2.out; have := HL3.out; have := HL4.out; have := HL5.out; have := HL6.out; omega
          have q9 := g6_6.put (p := ov s) (m := nn s)
          have q10 := g7_6.put_other (a := w2.heap.size) (p := ov s) (m := nn s) hne
          have D1 := put2 B6 (b := w2.heap.size) hle9 (ov s) (nn s)
          have c0 := g6_6.c0
          have c1 := g6_6.c1
          have f0 := g6_6.f0
          have f1 := g6_6.f1
          refine wpAnyH_ready (rs := [8]) (by kernel_rfl) (by simp) ?_
          refine AllReadyH.cons rfl (fun K hK => ?_) AllReadyH.nil
          go_simp
          refine hK.out _ _ ?_ (fun _ => ?_)
          · exact D1
          clear hK K
          clear c0 c1 f0 f1
          have q9' := q9.put_other (a := w3.heap.size) (p := ov t) (m := nn t) (Ne.symm hne)
          have q10' := q10.put (p := ov t) (m := nn t)
          have D2 := put2 D1 (b := w3.heap.size) hle10 (ov t) (nn t)
          have c0 := q10.c0
          have c1 := q10.c1
          have f0 := q10.f0
          have f1 := q10.f1
          refine wpAnyH_ready (rs := [9]) (by kernel_rfl) (by simp) ?_
          refine AllReadyH.cons rfl (fun K hK => ?_) AllReadyH.nil
          go_simp
          refine hK.out _ _ ?_ (fun _ => ?_)
          · exact D2
          clear hK K
          clear c0 c1 f0 f1
          refine wpAnyH_done (by kernel_rfl) ?_ _
          refine NoPanic.normal ?_
          go_wp2_with fail
          go_meet
          exact ⟨_, _, rfl, rfl, q9', q10', Below.chain hb D2⟩
      · go_simp
        have g7_3 := Box.new w2 false 0
        have E3 := bal (Below.refl _ w2) (.cells #[.bool false, .int .i64 0] 23)
        have B3 := Below.chain B2 E3
        refine hK.out _ _ ?_ (fun _ => ?_)
        · exact B3
        clear hK K
        have HL3 : Hid (w2.heap.size + 1 = (w2.alloc (.cells #[.bool false, .int .i64 0] 23)).heap.size) := by show _ = _; simp
        generalize w2.alloc (.cells #[.bool false, .int .i64 0] 23) = w3 at *
        refine wpAnyH_ready (rs := [2, 6]) (by kernel_rfl) (by simp) ?_
        refine AllReadyH.cons rfl (fun K hK => ?_) (AllReadyH.cons rfl (fun K hK => ?_) AllReadyH.nil)
        · go_simp
          refine (hS _).mono ?_
          rintro e w4 ⟨rfl, hb4⟩
          have B4 := Below.chain B3 hb4
          refine hK.out _ _ ?_ (fun _ => ?_)
          · exact B4
          clear hK K
          have g7_4 := g7_3.later hb4
          have HL4 : Hid _ := hb4.size
          refine wpAnyH_ready (rs := [5, 6]) (by kernel_rfl) (by simp) ?_
          refine AllReadyH.cons rfl (fun K hK => ?_) (AllReadyH.cons rfl (fun K hK => ?_) AllReadyH.nil)
          · go_simp
            refine (hT _).mono ?_
            rintro e w5 ⟨rfl, hb5⟩
            have B5 := Below.chain B4 hb5
            refine hK.out _ _ ?_ (fun _ => ?_)
            · exact B5
            clear hK K
            have g7_5 := g7_4.later hb5
            have HL5 : Hid _ := hb5.size
            refine wpAnyH_ready (rs := [6]) (by kernel_rfl) (by simp) ?_
            refine AllReadyH.cons rfl (fun K hK => ?_) AllReadyH.nil
            go_simp
            have g6_6 := Box.new w5 false 0
            have E6 := bal (Below.refl _ w5) (.cells #[.bool false, .int .i64 0] 23)
            have B6 := Below.chain B5 E6
            have g7_6 := g7_5.later E6
            refine hK.out _ _ ?_ (fun _ => ?_)
            · exact B6
            clear hK K
            have HL6 : Hid (w5.heap.size + 1 = (w5.alloc (.cells #[.bool false, .int .i64 0] 23)).heap.size) := by show _ = _; simp
            generalize w5.alloc (.cells #[.bool false, .int .i64 0] 23) = w6 at *
            have hne : w5.heap.size ≠ w2.heap.size := by have := HL2.out; have := HL3.out; have := HL4.out; have := HL5.out; have := HL6.out; omega
            have hle9 : w1.heap.size ≤ w5.heap.size := by have := HL2.out; have := HL3.out; have := HL4.out; have := HL5.out; have := HL6.out; omega
            have hle10 : w1.heap.size ≤ w2.heap.size := by have := HL2.out; have := HL3.out; have := HL4.out; have := HL5.out; have := HL6.out; omega
            have q9 := g6_6.put (p := ov s) (m := nn s)
            have q10 := g7_6.put_other (a := w5.heap.size) (p := ov s) (m := nn s) hne
            have D1 := put2 B6 (b := w5.heap.size) hle9 (ov s) (nn s)
            have c0 := g6_6.c0
            have c1 := g6_6.c1
            have f0 := g6_6.f0
            have f1 := g6_6.f1
            refine wpAnyH_ready (rs := [8]) (by kernel_rfl) (by simp) ?_
            refine AllReadyH.cons rfl (fun K hK => ?_) AllReadyH.nil
            go_simp
            refine hK.out _ _ ?_ (fun _ => ?_)
            · exact D1
            clear hK K
            clear c0 c1 f0 f1
            have q9' := q9.put_other (a := w2.heap.size) (p := ov t) (m := nn t) (Ne.symm hne)
            have q10' := q10.put (p := ov t) (m := nn t)
            have D2 := put2 D1 (b := w2.heap.size) hle10 (ov t) (nn t)
            have c0 := q10.c0
            have c1 := q10.c1
            have f0 := q10.f0
            have f1 := q10.f1
            refine wpAnyH_ready (rs := [9]) (by kernel_rfl) (by simp) ?_
            refine AllReadyH.cons rfl (fun K hK => ?_) AllReadyH.nil
            go_simp
            refine hK.out _ _ ?_ (fun _ => ?_)
            · exact D2
            clear hK K
            clear c0 c1 f0 f1
            refine wpAnyH_done (by kernel_rfl) ?_ _
            refine NoPanic.normal ?_
            go_wp2_with fail
            go_meet
            exact ⟨_, _, rfl, rfl, q9', q10', Below.chain hb D2⟩
          · go_simp
            have g6_5 := Box.new w4 false 0
            have E5 := bal (Below.refl _ w4) (.cells #[.bool false, .int .i64 0] 23)
            have B5 := Below.chain B4 E5
            have g7_5 := g7_4.later E5
            refine hK.out _ _ ?_ (fun _ => ?_)
            · exact B5
            clear hK K
            have HL5 : Hid (w4.heap.size + 1 = (w4.alloc (.cells #[.bool false, .int .i64 0] 23)).heap.size) := by show _ = _; simp
            generalize w4.alloc (.cells #[.bool false, .int .i64 0] 23) = w5 at *
            refine wpAnyH_ready (rs := [5]) (by kernel_rfl) (by simp) ?_
            refine AllReadyH.cons rfl (fun K hK => ?_) AllReadyH.nil
            go_simp
            refine (hT _).mono ?_
            rintro e w6 ⟨rfl, hb6⟩
            have B6 := Below.chain B5 hb6
            refine hK.out _ _ ?_ (fun _ => ?_)
            · exact B6
            clear hK K
            have g6_6 := g6_5.later hb6
            have g7_6 := g7_5.later hb6
            have HL6 : Hid _ := hb6.size
            have hne : w4.heap.size ≠ w2.heap.size := by have := HL2.out; have := HL3.out; have := HL4.out; have := HL5.out; have := HL6.out; omega
            have hle9 : w1.heap.size ≤ w4.heap.size := by have := HL2.out; have := HL3.out; have := HL4.out; have := HL5.out; have := HL6.out; omega
            have hle10 : w1.heap.size ≤ w2.heap.size := by have := HL2.out; have := HL3.out; have := HL4.out; have := HL5.out; have := HL6.out; omega
            have q9 := g6_6.put (p := ov s) (m := nn s)
            have q10 := g7_6.put_other (a := w4.heap.size) (p := ov s) (m := nn s) hne
            have D1 := put2 B6 (b := w4.heap.size) hle9 (ov s) (nn s)
            have c0 := g6_6.c0
            have c1 := g6_6.c1
            have f0 := g6_6.f0
            have f1 := g6_6.f1
            refine wpAnyH_ready (rs := [8]) (by kernel_rfl) (by simp) ?_
            refine AllReadyH.cons rfl (fun K hK => ?_) AllReadyH.nil
            go_simp
            refine hK.out _ _ ?_ (fun _ => ?_)
            · exact D1
            clear hK K
            clear c0 c1 f0 f1
            have q9' := q9.put_other (a := w2.heap.size) (p := ov t) (m := nn t) (Ne.symm hne)
            have q10' := q10.put (p := ov t) (m := nn t)
            have D2 := put2 D1 (b := w2.heap.size) hle10 (ov t) (nn t)
            have c0 := q10.c0
            have c1 := q10.c1
            have f0 := q10.f0
            have f1 := q10.f1
            refine wpAnyH_ready (rs := [9]) (by kernel_rfl) (by simp) ?_
            refine AllReadyH.cons rfl (fun K hK => ?_) AllReadyH.nil
            go_simp
            refine hK.out _ _ ?_ (fun _ => ?_)
            · exact D2
            clear hK K
            clear c0 c1 f0 f1
            refine wpAnyH_done (by kernel_rfl) ?_ _
            refine NoPanic.normal ?_
            go_wp2_with fail
            go_meet
            exact ⟨_, _, rfl, rfl, q9', q10', Below.chain hb D2⟩
        · go_simp
          have g6_4 := Box.new w3 false 0
          have E4 := bal (Below.refl _ w3) (.cells #[.bool false, .int .i64 0] 23)
          have B4 := Below.chain B3 E4
          have g7_4 := g7_3.later E4
          refine hK.out _ _ ?_ (fun _ => ?_)
          · exact B4
          clear hK K
          have HL4 : Hid (w3.heap.size + 1 = (w3.alloc (.cells #[.bool false, .int .i64 0] 23)).heap.size) := by show _ = _; simp
          generalize w3.alloc (.cells #[.bool false, .int .i64 0] 23) = w4 at *
          refine wpAnyH_ready (rs := [2]) (by kernel_rfl) (by simp) ?_
          refine AllReadyH.cons rfl (fun K hK => ?_) AllReadyH.nil
          go_simp
          refine (hS _).mono ?_
          rintro e w5 ⟨rfl, hb5⟩
          have B5 := Below.chain B4 hb5
          refine hK.out _ _ ?_ (fun _ => ?_)
          · exact B5
          clear hK K
          have g6_5 := g6_4.later hb5
          have g7_5 := g7_4.later hb5
          have HL5 : Hid _ := hb5.size
          refine wpAnyH_ready (rs := [5]) (by kernel_rfl) (by simp) ?_
          refine AllReadyH.cons rfl (fun K hK => ?_) AllReadyH.nil
          go_simp
          refine (hT _).mono ?_
          rintro e w6 ⟨rfl, hb6⟩
          have B6 := Below.chain B5 hb6
          refine hK.out _ _ ?_ (fun _ => ?_)
          · exact B6
          clear hK K
          have g6_6 := g6_5.later hb6
          have g7_6 := g7_5.later hb6
          have HL6 : Hid _ := hb6.size
          have hne : w3.heap.size ≠ w2.heap.size := by have := HL2.out; have := HL3.out; have := HL4.out; have := HL5.out; have := HL6.out; omega
          have hle9 : w1.heap.size ≤ w3.heap.size := by have := HL2.out; have := HL3.out; have := HL4.out; have := HL5.out; have := HL6.out; omega
          have hle10 : w1.heap.size ≤ w2.heap.size := by have := HL2.out; have := HL3.out; have := HL4.out; have := HL5.out; have := HL6.out; omega
          have q9 := g6_6.put (p := ov s) (m := nn s)
          have q10 := g7_6.put_other (a := w3.heap.size) (p := ov s) (m := nn s) hne
          have D1 := put2 B6 (b := w3.heap.size) hle9 (ov s) (nn s)
          have c0 := g6_6.c0
          have c1 := g6_6.c1
          have f0 := g6_6.f0
          have f1 := g6_6.f1
          refine wpAnyH_ready (rs := [8]) (by kernel_rfl) (by simp) ?_
          refine AllReadyH.cons rfl (fun K hK => ?_) AllReadyH.nil
          go_simp
          refine hK.out _ _ ?_ (fun _ => ?_)
          · exact D1
          clear hK K
          clear c0 c1 f0 f1
          have q9' := q9.put_other (a := w2.heap.size) (p := ov t) (m := nn t) (Ne.symm hne)
          have q10' := q10.put (p := ov t) (m := nn t)
          have D2 := put2 D1 (b := w2.heap.size) hle10 (ov t) (nn t)
          have c0 := q10.c0
          have c1 := q10.c1
          have f0 := q10.f0
          have f1 := q10.f1
          refine wpAnyH_ready (rs := [9]) (by kernel_rfl) (by simp) ?_
          refine AllReadyH.cons rfl (fun K hK => ?_) AllReadyH.nil
          go_simp
          refine hK.out _ _ ?_ (fun _ => ?_)
          · exact D2
          clear hK K
          clear c0 c1 f0 f1
          refine wpAnyH_done (by kernel_rfl) ?_ _
          refine NoPanic.normal ?_
          go_wp2_with fail
          go_meet
          exact ⟨_, _, rfl, rfl, q9', q10', Below.chain hb D2⟩
    case rest =>
      obtain ⟨b9, b10, rfl, rfl, h9, h10, hbz⟩ := hcut
      obtain ⟨c0, c1, _, _⟩ := h9
      obtain ⟨d0, d1, _, _⟩ := h10
      cases hs : ov s with
      | true =>
        rw [hs] at c0
        go_wp2
        go_ret
        exact ⟨rfl, hbz⟩
      | false =>
        cases htt : ov t with
        | true =>
          rw [hs] at c0
          rw [htt] at d0
          go_wp2
          go_ret
          exact ⟨rfl, hbz⟩
        | false =>
          have hv : v = x := AD.out hs htt
          rw [hs] at c0 cst
          rw [htt] at d0 cst
          rw [hv] at cst
          go_wp2_with fail
          refine (cst _).mono ?_
          rintro e w9 ⟨rfl, hb9⟩
          go_wp2
          go_ret
          exact ⟨rfl, Below.chain hbz hb9⟩
end Go.Proofs.YtibdlcegmepbcaaDoor
