/- FixLaws: the contracts, and the walk where all are numbers. -/
import Derived.Test.YtibdlcegmepbcaaDoorAlg
import Derived.Test.YtibdlcegmepbcaaDoorSub
import Derived.Deep.CutBlock
namespace Go.Proofs.YtibdlcegmepbcaaDoor
open Go.RowKit

theorem mem3 {o p q : Bool} {n m k : Int} (hn : R64 n) (hm : R64 m) (hk : R64 k) : ∀ x ∈ [(o, n), (p, m), (q, k)], -9223372036854775808 ≤ x.2 ∧ x.2 ≤ 9223372036854775807 := by
  intro x hx
  rcases List.mem_cons.1 hx with rfl | hx
  · exact hn
  · rcases List.mem_cons.1 hx with rfl | hx
    · exact hm
    · rcases List.mem_cons.1 hx with rfl | hx
      · exact hk
      · cases hx
theorem mem2 {o p : Bool} {n m : Int} (hn : R64 n) (hm : R64 m) : ∀ x ∈ [(o, n), (p, m)], -9223372036854775808 ≤ x.2 ∧ x.2 ≤ 9223372036854775807 := by
  intro x hx
  rcases List.mem_cons.1 hx with rfl | hx
  · exact hn
  · rcases List.mem_cons.1 hx with rfl | hx
    · exact hm
    · cases hx

set_option maxRecDepth 20000 in
set_option maxHeartbeats 8000000 in
theorem laws_in (o : Bool) (n : Int) (p : Bool) (m : Int) (q : Bool) (k : Int) (hn : R64 n) (hm : R64 m) (hk : R64 k) (i1 : fIs o n = true) (i2 : fIs p m = true) (i3 : fIs q k = true) (w : World) (ht : Tab Tryd.prog w) :
    Calls Tryd.prog 6 #[.agg #[.bool o, .int .i64 n], .agg #[.bool p, .int .i64 m], .agg #[.bool q, .int .i64 k]] w fun e w' => e = .returned (.bool true) ∧ Below w.heap.size w w' := by
  obtain ⟨hx0, hy0, hz00, hb0⟩ := boxes3 w o p q n m k
  have hz0 : Box _ (w.heap.size + 1 + 1) q k := hz00
  clear hz00
  have hVx : V (cnt o n) := V.cnt hn.1 hn.2
  have hVy : V (cnt p m) := V.cnt hm.1 hm.2
  have ix := is_cnt i1
  have iy := is_cnt i2
  have hAdd : ∀ w, Calls Tryd.prog 14 #[.agg #[.bool o, .int .i64 n], .agg #[.bool p, .int .i64 m]] w fun e w' => e = .returned (.agg #[.bool (ov (fAdd (cnt o n) (cnt p m))), .int .i64 (nn (fAdd (cnt o n) (cnt p m)))]) ∧ Below w.heap.size w w' := fun w => add_any o p n m w hn hm
  have hAddBA : ∀ w, Calls Tryd.prog 14 #[.agg #[.bool p, .int .i64 m], .agg #[.bool o, .int .i64 n]] w fun e w' => e = .returned (.agg #[.bool (ov (fAdd (cnt o n) (cnt p m))), .int .i64 (nn (fAdd (cnt o n) (cnt p m)))]) ∧ Below w.heap.size w w' := fun w => by have h := add_any p o m n w hm hn; rw [add_comm'] at h; exact h
  have hMul : ∀ w, Calls Tryd.prog 18 #[.agg #[.bool o, .int .i64 n], .agg #[.bool p, .int .i64 m]] w fun e w' => e = .returned (.agg #[.bool (ov (fMul (cnt o n) (cnt p m))), .int .i64 (nn (fMul (cnt o n) (cnt p m)))]) ∧ Below w.heap.size w w' := fun w => mul_any o p n m w hn hm
  have hMulBA : ∀ w, Calls Tryd.prog 18 #[.agg #[.bool p, .int .i64 m], .agg #[.bool o, .int .i64 n]] w fun e w' => e = .returned (.agg #[.bool (ov (fMul (cnt o n) (cnt p m))), .int .i64 (nn (fMul (cnt o n) (cnt p m)))]) ∧ Below w.heap.size w w' := fun w => by have h := mul_any p o m n w hm hn; rw [mul_comm'] at h; exact h
  have hSub : ∀ w, Calls Tryd.prog 16 #[.agg #[.bool o, .int .i64 n], .agg #[.bool p, .int .i64 m]] w fun e w' => e = .returned (.agg #[.bool (ov (fAdd (cnt o n) (fNeg (cnt p m)))), .int .i64 (nn (fAdd (cnt o n) (fNeg (cnt p m))))]) ∧ Below w.heap.size w w' := fun w => sub_any o p n m w hn hm
  have hNegA : ∀ w, Calls Tryd.prog 22 #[.agg #[.bool o, .int .i64 n]] w fun e w' => e = .returned (.agg #[.bool (ov (fNeg (cnt o n))), .int .i64 (nn (fNeg (cnt o n)))]) ∧ Below w.heap.size w w' := fun w => neg_any o n w hn.1 hn.2
  have hNegB : ∀ w, Calls Tryd.prog 22 #[.agg #[.bool p, .int .i64 m]] w fun e w' => e = .returned (.agg #[.bool (ov (fNeg (cnt p m))), .int .i64 (nn (fNeg (cnt p m)))]) ∧ Below w.heap.size w w' := fun w => neg_any p m w hm.1 hm.2
  have hAddN : ∀ w, Calls Tryd.prog 14 #[.agg #[.bool o, .int .i64 n], .agg #[.bool (ov (fNeg (cnt p m))), .int .i64 (nn (fNeg (cnt p m)))]] w fun e w' => e = .returned (.agg #[.bool (ov (fAdd (cnt o n) (fNeg (cnt p m)))), .int .i64 (nn (fAdd (cnt o n) (fNeg (cnt p m))))]) ∧ Below w.heap.size w w' := fun w => by have h := add_any o (ov (fNeg (cnt p m))) n (nn (fNeg (cnt p m))) w hn (V.r64 (V.neg hVy)); rw [cnt_val (V.neg hVy)] at h; exact h
  have hNegNeg : ∀ w, Calls Tryd.prog 22 #[.agg #[.bool (ov (fNeg (cnt o n))), .int .i64 (nn (fNeg (cnt o n)))]] w fun e w' => e = .returned (.agg #[.bool o, .int .i64 n]) ∧ Below w.heap.size w w' := fun w => by have h := neg_any (ov (fNeg (cnt o n))) (nn (fNeg (cnt o n))) w (V.r64 (V.neg hVx)).1 (V.r64 (V.neg hVx)).2; rw [cnt_val (V.neg hVx), neg_neg', ix.1, ix.2] at h; exact h
  have hOf1 : ∀ w, Calls Tryd.prog 12 #[.int .i64 1] w fun e w' => e = .returned (.agg #[.bool false, .int .i64 1000000]) ∧ Below w.heap.size w w' := known_of1
  have hMul1 : ∀ w, Calls Tryd.prog 18 #[.agg #[.bool o, .int .i64 n], .agg #[.bool false, .int .i64 1000000]] w fun e w' => e = .returned (.agg #[.bool o, .int .i64 n]) ∧ Below w.heap.size w w' := fun w => by have h := mul_any o false n 1000000 w hn ⟨by decide, by decide⟩; rw [ex_cnt 1000000 (by decide), ← ex_of1, mul_one' hVx, ix.1, ix.2] at h; exact h
  have hDiv1 : ∀ w, Calls Tryd.prog 20 #[.agg #[.bool o, .int .i64 n], .agg #[.bool false, .int .i64 1000000]] w fun e w' => e = .returned (.agg #[.bool o, .int .i64 n]) ∧ Below w.heap.size w w' := fun w => by have h := quo_any o false n 1000000 w hn ⟨by decide, by decide⟩; rw [ex_cnt 1000000 (by decide), ← ex_of1, div_one' hVx, ix.1, ix.2] at h; exact h
  have hAdd0 : ∀ w, Calls Tryd.prog 14 #[.agg #[.bool o, .int .i64 n], .agg #[.bool false, .int .i64 0]] w fun e w' => e = .returned (.agg #[.bool o, .int .i64 n]) ∧ Below w.heap.size w w' := fun w => by have h := add_any o false n 0 w hn ⟨by decide, by decide⟩; rw [ex_cnt 0 (by decide), add_zero' hVx, ix.1, ix.2] at h; exact h
  have hSubS : ∀ w, Calls Tryd.prog 16 #[.agg #[.bool (ov (fAdd (cnt o n) (cnt p m))), .int .i64 (nn (fAdd (cnt o n) (cnt p m)))], .agg #[.bool p, .int .i64 m]] w fun e w' => e = .returned (.agg #[.bool (ov (fAdd (fAdd (cnt o n) (cnt p m)) (fNeg (cnt p m)))), .int .i64 (nn (fAdd (fAdd (cnt o n) (cnt p m)) (fNeg (cnt p m))))]) ∧ Below w.heap.size w w' := fun w => by have h := sub_any (ov (fAdd (cnt o n) (cnt p m))) p (nn (fAdd (cnt o n) (cnt p m))) m w (V.r64 (V.add _ _)) hm; rw [cnt_val (V.add _ _)] at h; exact h
  have hMulN : ∀ w, Calls Tryd.prog 18 #[.agg #[.bool (ov (fNeg (cnt o n))), .int .i64 (nn (fNeg (cnt o n)))], .agg #[.bool p, .int .i64 m]] w fun e w' => e = .returned (.agg #[.bool (ov (fNeg (fMul (cnt o n) (cnt p m)))), .int .i64 (nn (fNeg (fMul (cnt o n) (cnt p m))))]) ∧ Below w.heap.size w w' := fun w => by have h := mul_any (ov (fNeg (cnt o n))) p (nn (fNeg (cnt o n))) m w (V.r64 (V.neg hVx)) hm; rw [cnt_val (V.neg hVx), neg_mul'] at h; exact h
  have hNegM : ∀ w, Calls Tryd.prog 22 #[.agg #[.bool (ov (fMul (cnt o n) (cnt p m))), .int .i64 (nn (fMul (cnt o n) (cnt p m)))]] w fun e w' => e = .returned (.agg #[.bool (ov (fNeg (fMul (cnt o n) (cnt p m)))), .int .i64 (nn (fNeg (fMul (cnt o n) (cnt p m))))]) ∧ Below w.heap.size w w' := fun w => by have h := neg_any (ov (fMul (cnt o n) (cnt p m))) (nn (fMul (cnt o n) (cnt p m))) w (V.r64 (V.mul _ _)).1 (V.r64 (V.mul _ _)).2; rw [cnt_val (V.mul _ _)] at h; exact h
  have hS3 : ∀ (W : World) (b : Nat), Ns W (some ⟨b, 0, none⟩) 3 [(o, n), (p, m), (q, k)] → Calls Tryd.prog 28 #[.slice (some ⟨b, 0, none⟩) 3 3] W fun e w' => e = .returned (.agg #[.bool (ov (fSum [cnt o n, cnt p m, cnt q k])), .int .i64 (nn (fSum [cnt o n, cnt p m, cnt q k]))]) ∧ Below W.heap.size W w' := fun W b h => sum_any _ 3 3 _ W (by omega) h (mem3 hn hm hk)
  have hS3t : ∀ (W : World) (b : Nat), Ns W (some ⟨b, 0, none⟩) 3 [(q, k), (o, n), (p, m)] → Calls Tryd.prog 28 #[.slice (some ⟨b, 0, none⟩) 3 3] W fun e w' => e = .returned (.agg #[.bool (ov (fSum [cnt o n, cnt p m, cnt q k])), .int .i64 (nn (fSum [cnt o n, cnt p m, cnt q k]))]) ∧ Below W.heap.size W w' := fun W b h => by have h := sum_any _ 3 3 _ W (by omega) h (mem3 hk hn hm); have e : fSum (cnts [(q, k), (o, n), (p, m)]) = fSum [cnt o n, cnt p m, cnt q k] := (sum_turn (cnt o n) (cnt p m) (cnt q k)).symm; rw [e] at h; exact h
  have hS2 : ∀ (W : World) (b : Nat), Ns W (some ⟨b, 0, none⟩) 2 [(o, n), (p, m)] → Calls Tryd.prog 28 #[.slice (some ⟨b, 0, none⟩) 2 2] W fun e w' => e = .returned (.agg #[.bool (ov (fAdd (cnt o n) (cnt p m))), .int .i64 (nn (fAdd (cnt o n) (cnt p m)))]) ∧ Below W.heap.size W w' := fun W b h => by have h := sum_any _ 2 2 _ W (by omega) h (mem2 hn hm); have e : fSum (cnts [(o, n), (p, m)]) = fAdd (cnt o n) (cnt p m) := fSum_two (cnt o n) (cnt p m); rw [e] at h; exact h
  generalize cnt o n = x at *
  generalize cnt p m = y at *
  have HSV : Hid _ := add_sub' (y := y) hVx
  generalize fAdd (fAdd x y) (fNeg y) = sv at *
  generalize fSum [x, y, cnt q k] = sg at *
  have IX : Hid _ := ix
  clear ix iy
  go_enter Tryd.func6, Tryd.ntmps6
  go_wp2_with fail
  generalize ((w.alloc (.cells #[.bool o, .int .i64 n] 23)).alloc (.cells #[.bool p, .int .i64 m] 23)).alloc (.cells #[.bool q, .int .i64 k] 23) = w0 at *
  refine (known_any _ (ht.later hb0)).mono ?_
  rintro e wk ⟨rfl, hbk⟩
  have hx1 := hx0.later hbk
  have hy1 := hy0.later hbk
  have hz1 := hz0.later hbk
  have hb1 := Below.chain hb0 hbk
  obtain ⟨x0, x1, _, _⟩ := id hx1
  go_wp2_with fail
  refine (is_any _ _ _).mono ?_
  rintro e w3 ⟨rfl, hb3⟩
  rw [i1]
  obtain ⟨y0, y1, _, _⟩ := hy1.later hb3
  go_wp2_with fail
  refine (is_any _ _ _).mono ?_
  rintro e w4 ⟨rfl, hb4⟩
  rw [i2]
  obtain ⟨z0, z1, _, _⟩ := hz1.later (Below.chain hb3 hb4)
  go_wp2_with fail
  refine (is_any _ _ _).mono ?_
  rintro e w1 ⟨rfl, hb5⟩
  rw [i3]
  have hb35 := Below.chain (Below.chain hb3 hb4) hb5
  have hx := hx1.later hb35
  have hy := hy1.later hb35
  have hz := hz1.later hb35
  have hb := Below.chain hb1 hb35
  clear x0 x1 y0 y1 z0 z1 hx1 hy1 hz1 hb1 hb35 hb3 hb4 hb5 hx0 hy0 hz0 hb0 hbk
  go_upto_region 5 with fail

  go_cut [76] from 23 to 75 (fun a wx => a = .bool false ∧ Box wx w.heap.size o n ∧ Box wx (w.heap.size + 1) p m ∧ Box wx (w.heap.size + 1 + 1) q k ∧ Below w.heap.size w wx)
  case first =>
    have m0 := hx.at0
    have m1 := hx.at1
    have m2 := hy.at0
    have m3 := hy.at1
    have m4 := hz.at0
    have m5 := hz.at1
    refine wp_region_noPanic ?_
    refine wp_region_held_drew (S := fun W => Below w1.heap.size w1 W) (by kernel_rfl) ?_ (fun _ => ?_)
    · exact (Below.refl _ _).drew
    have B2 : Below w1.heap.size w1 w1.drew := (Below.refl _ _).drew
    generalize w1.drew = w2 at *
    refine take_at 0 (some 23) (.agg #[.bool o, .int .i64 n]) rfl rfl (by kernel_rfl) (by kernel_rfl) (by kernel_rfl) (fun _ _ _ h => h) (by rfl) (fun W hSw => by go_simp) B2 ?_
    simp only [Act.put, List.setIfInBounds_toArray, List.set_cons_zero, List.set_cons_succ]
    refine take_at 1 (some 24) (.agg #[.bool p, .int .i64 m]) rfl rfl (by kernel_rfl) (by kernel_rfl) (by kernel_rfl) (fun _ _ _ h => h) (by rfl) (fun W hSw => by go_simp) B2 ?_
    simp only [Act.put, List.setIfInBounds_toArray, List.set_cons_zero, List.set_cons_succ]
    refine take_at 3 (some 26) (.agg #[.bool p, .int .i64 m]) rfl rfl (by kernel_rfl) (by kernel_rfl) (by kernel_rfl) (fun _ _ _ h => h) (by rfl) (fun W hSw => by go_simp) B2 ?_
    simp only [Act.put, List.setIfInBounds_toArray, List.set_cons_zero, List.set_cons_succ]
    refine take_at 4 (some 27) (.agg #[.bool o, .int .i64 n]) rfl rfl (by kernel_rfl) (by kernel_rfl) (by kernel_rfl) (fun _ _ _ h => h) (by rfl) (fun W hSw => by go_simp) B2 ?_
    simp only [Act.put, List.setIfInBounds_toArray, List.set_cons_zero, List.set_cons_succ]
    refine wpAnyH_ready (rs := [2]) (by kernel_rfl) (by simp) ?_
    refine AllReadyH.cons rfl (fun K hK => ?_) AllReadyH.nil
    go_simp
    refine (hAdd _).mono ?_
    rintro e w11 ⟨rfl, hb11⟩
    have B11 := Below.chain B2 hb11
    refine hK.out _ _ ?_ (fun _ => ?_)
    · exact B11
    clear hK K
    refine wpAnyH_ready (rs := [5]) (by kernel_rfl) (by simp) ?_
    refine AllReadyH.cons rfl (fun K hK => ?_) AllReadyH.nil
    go_simp
    refine (hAddBA _).mono ?_
    rintro e w12 ⟨rfl, hb12⟩
    have B12 := Below.chain B11 hb12
    refine hK.out _ _ ?_ (fun _ => ?_)
    · exact B12
    clear hK K
    refine take_at 6 (some 29) (.bool false) rfl rfl (by kernel_rfl) (by kernel_rfl) (by kernel_rfl) (fun _ _ _ h => h) (by rfl) (fun W hSw => by go_simp) B12 ?_
    simp only [Act.put, List.setIfInBounds_toArray, List.set_cons_zero, List.set_cons_succ]
    refine take_at 7 (some 30) (.bool false) rfl rfl (by kernel_rfl) (by kernel_rfl) (by kernel_rfl) (fun _ _ _ h => h) (by rfl) (fun W hSw => by go_simp) B12 ?_
    simp only [Act.put, List.setIfInBounds_toArray, List.set_cons_zero, List.set_cons_succ]
    refine take_at 8 (some 31) (.agg #[.bool o, .int .i64 n]) rfl rfl (by kernel_rfl) (by kernel_rfl) (by kernel_rfl) (fun _ _ _ h => h) (by rfl) (fun W hSw => by go_simp) B12 ?_
    simp only [Act.put, List.setIfInBounds_toArray, List.set_cons_zero, List.set_cons_succ]
    refine take_at 9 (some 32) (.agg #[.bool p, .int .i64 m]) rfl rfl (by kernel_rfl) (by kernel_rfl) (by kernel_rfl) (fun _ _ _ h => h) (by rfl) (fun W hSw => by go_simp) B12 ?_
    simp only [Act.put, List.setIfInBounds_toArray, List.set_cons_zero, List.set_cons_succ]
    refine take_at 11 (some 34) (.agg #[.bool p, .int .i64 m]) rfl rfl (by kernel_rfl) (by kernel_rfl) (by kernel_rfl) (fun _ _ _ h => h) (by rfl) (fun W hSw => by go_simp) B12 ?_
    simp only [Act.put, List.setIfInBounds_toArray, List.set_cons_zero, List.set_cons_succ]
    refine take_at 12 (some 35) (.agg #[.bool o, .int .i64 n]) rfl rfl (by kernel_rfl) (by kernel_rfl) (by kernel_rfl) (fun _ _ _ h => h) (by rfl) (fun W hSw => by go_simp) B12 ?_
    simp only [Act.put, List.setIfInBounds_toArray, List.set_cons_zero, List.set_cons_succ]
    refine wpAnyH_ready (rs := [10]) (by kernel_rfl) (by simp) ?_
    refine AllReadyH.cons rfl (fun K hK => ?_) AllReadyH.nil
    go_simp
    refine (hMul _).mono ?_
    rintro e w13 ⟨rfl, hb13⟩
    have B13 := Below.chain B12 hb13
    refine hK.out _ _ ?_ (fun _ => ?_)
    · exact B13
    clear hK K
    refine wpAnyH_ready (rs := [13]) (by kernel_rfl) (by simp) ?_
    refine AllReadyH.cons rfl (fun K hK => ?_) AllReadyH.nil
    go_simp
    refine (hMulBA _).mono ?_
    rintro e w14 ⟨rfl, hb14⟩
    have B14 := Below.chain B13 hb14
    refine hK.out _ _ ?_ (fun _ => ?_)
    · exact B14
    clear hK K
    refine take_at 14 (some 37) (.bool false) rfl rfl (by kernel_rfl) (by kernel_rfl) (by kernel_rfl) (fun _ _ _ h => h) (by rfl) (fun W hSw => by go_simp) B14 ?_
    simp only [Act.put, List.setIfInBounds_toArray, List.set_cons_zero, List.set_cons_succ]
    refine take_at 15 (some 38) (.bool false) rfl rfl (by kernel_rfl) (by kernel_rfl) (by kernel_rfl) (fun _ _ _ h => h) (by rfl) (fun W hSw => by go_simp) B14 ?_
    simp only [Act.put, List.setIfInBounds_toArray, List.set_cons_zero, List.set_cons_succ]
    refine take_at 16 (some 39) (.bool false) rfl rfl (by kernel_rfl) (by kernel_rfl) (by kernel_rfl) (fun _ _ _ h => h) (by rfl) (fun W hSw => by go_simp) B14 ?_
    simp only [Act.put, List.setIfInBounds_toArray, List.set_cons_zero, List.set_cons_succ]
    refine take_at 17 (some 40) (.agg #[.bool o, .int .i64 n]) rfl rfl (by kernel_rfl) (by kernel_rfl) (by kernel_rfl) (fun _ _ _ h => h) (by rfl) (fun W hSw => by go_simp) B14 ?_
    simp only [Act.put, List.setIfInBounds_toArray, List.set_cons_zero, List.set_cons_succ]
    refine take_at 18 (some 41) (.agg #[.bool p, .int .i64 m]) rfl rfl (by kernel_rfl) (by kernel_rfl) (by kernel_rfl) (fun _ _ _ h => h) (by rfl) (fun W hSw => by go_simp) B14 ?_
    simp only [Act.put, List.setIfInBounds_toArray, List.set_cons_zero, List.set_cons_succ]
    refine take_at 20 (some 43) (.agg #[.bool o, .int .i64 n]) rfl rfl (by kernel_rfl) (by kernel_rfl) (by kernel_rfl) (fun _ _ _ h => h) (by rfl) (fun W hSw => by go_simp) B14 ?_
    simp only [Act.put, List.setIfInBounds_toArray, List.set_cons_zero, List.set_cons_succ]
    refine take_at 21 (some 44) (.agg #[.bool p, .int .i64 m]) rfl rfl (by kernel_rfl) (by kernel_rfl) (by kernel_rfl) (fun _ _ _ h => h) (by rfl) (fun W hSw => by go_simp) B14 ?_
    simp only [Act.put, List.setIfInBounds_toArray, List.set_cons_zero, List.set_cons_succ]
    refine wpAnyH_ready (rs := [19]) (by kernel_rfl) (by simp) ?_
    refine AllReadyH.cons rfl (fun K hK => ?_) AllReadyH.nil
    go_simp
    refine (hSub _).mono ?_
    rintro e w15 ⟨rfl, hb15⟩
    have B15 := Below.chain B14 hb15
    refine hK.out _ _ ?_ (fun _ => ?_)
    · exact B15
    clear hK K
    refine wpAnyH_ready (rs := [22]) (by kernel_rfl) (by simp) ?_
    refine AllReadyH.cons rfl (fun K hK => ?_) AllReadyH.nil
    go_simp
    refine (hNegB _).mono ?_
    rintro e w16 ⟨rfl, hb16⟩
    have B16 := Below.chain B15 hb16
    refine hK.out _ _ ?_ (fun _ => ?_)
    · exact B16
    clear hK K
    refine wpAnyH_ready (rs := [23]) (by kernel_rfl) (by simp) ?_
    refine AllReadyH.cons rfl (fun K hK => ?_) AllReadyH.nil
    go_simp
    refine (hAddN _).mono ?_
    rintro e w17 ⟨rfl, hb17⟩
    have B17 := Below.chain B16 hb17
    refine hK.out _ _ ?_ (fun _ => ?_)
    · exact B17
    clear hK K
    refine take_at 24 (some 47) (.bool false) rfl rfl (by kernel_rfl) (by kernel_rfl) (by kernel_rfl) (fun _ _ _ h => h) (by rfl) (fun W hSw => by go_simp) B17 ?_
    simp only [Act.put, List.setIfInBounds_toArray, List.set_cons_zero, List.set_cons_succ]
    refine take_at 25 (some 48) (.bool false) rfl rfl (by kernel_rfl) (by kernel_rfl) (by kernel_rfl) (fun _ _ _ h => h) (by rfl) (fun W hSw => by go_simp) B17 ?_
    simp only [Act.put, List.setIfInBounds_toArray, List.set_cons_zero, List.set_cons_succ]
    refine take_at 26 (some 49) (.bool false) rfl rfl (by kernel_rfl) (by kernel_rfl) (by kernel_rfl) (fun _ _ _ h => h) (by rfl) (fun W hSw => by go_simp) B17 ?_
    simp only [Act.put, List.setIfInBounds_toArray, List.set_cons_zero, List.set_cons_succ]
    refine take_at 27 (some 50) (.agg #[.bool o, .int .i64 n]) rfl rfl (by kernel_rfl) (by kernel_rfl) (by kernel_rfl) (fun _ _ _ h => h) (by rfl) (fun W hSw => by go_simp) B17 ?_
    simp only [Act.put, List.setIfInBounds_toArray, List.set_cons_zero, List.set_cons_succ]
    refine take_at 30 (some 53) (.agg #[.bool o, .int .i64 n]) rfl rfl (by kernel_rfl) (by kernel_rfl) (by kernel_rfl) (fun _ _ _ h => h) (by rfl) (fun W hSw => by go_simp) B17 ?_
    simp only [Act.put, List.setIfInBounds_toArray, List.set_cons_zero, List.set_cons_succ]
    refine wpAnyH_ready (rs := [28]) (by kernel_rfl) (by simp) ?_
    refine AllReadyH.cons rfl (fun K hK => ?_) AllReadyH.nil
    go_simp
    refine (hNegA _).mono ?_
    rintro e w18 ⟨rfl, hb18⟩
    have B18 := Below.chain B17 hb18
    refine hK.out _ _ ?_ (fun _ => ?_)
    · exact B18
    clear hK K
    refine wpAnyH_ready (rs := [29]) (by kernel_rfl) (by simp) ?_
    refine AllReadyH.cons rfl (fun K hK => ?_) AllReadyH.nil
    go_simp
    refine (hNegNeg _).mono ?_
    rintro e w19 ⟨rfl, hb19⟩
    have B19 := Below.chain B18 hb19
    refine hK.out _ _ ?_ (fun _ => ?_)
    · exact B19
    clear hK K
    refine take_at 31 (some 54) (.bool false) rfl rfl (by kernel_rfl) (by kernel_rfl) (by kernel_rfl) (fun _ _ _ h => h) (by rfl) (fun W hSw => by go_simp) B19 ?_
    simp only [Act.put, List.setIfInBounds_toArray, List.set_cons_zero, List.set_cons_succ]
    refine take_at 32 (some 55) (.bool false) rfl rfl (by kernel_rfl) (by kernel_rfl) (by kernel_rfl) (fun _ _ _ h => h) (by rfl) (fun W hSw => by go_simp) B19 ?_
    simp only [Act.put, List.setIfInBounds_toArray, List.set_cons_zero, List.set_cons_succ]
    refine take_at 33 (some 56) (.bool false) rfl rfl (by kernel_rfl) (by kernel_rfl) (by kernel_rfl) (fun _ _ _ h => h) (by rfl) (fun W hSw => by go_simp) B19 ?_
    simp only [Act.put, List.setIfInBounds_toArray, List.set_cons_zero, List.set_cons_succ]
    refine take_at 34 (some 57) (.agg #[.bool o, .int .i64 n]) rfl rfl (by kernel_rfl) (by kernel_rfl) (by kernel_rfl) (fun _ _ _ h => h) (by rfl) (fun W hSw => by go_simp) B19 ?_
    simp only [Act.put, List.setIfInBounds_toArray, List.set_cons_zero, List.set_cons_succ]
    refine take_at 37 (some 60) (.agg #[.bool o, .int .i64 n]) rfl rfl (by kernel_rfl) (by kernel_rfl) (by kernel_rfl) (fun _ _ _ h => h) (by rfl) (fun W hSw => by go_simp) B19 ?_
    simp only [Act.put, List.setIfInBounds_toArray, List.set_cons_zero, List.set_cons_succ]
    refine wpAnyH_ready (rs := [35]) (by kernel_rfl) (by simp) ?_
    refine AllReadyH.cons rfl (fun K hK => ?_) AllReadyH.nil
    go_simp
    refine (hOf1 _).mono ?_
    rintro e w20 ⟨rfl, hb20⟩
    have B20 := Below.chain B19 hb20
    refine hK.out _ _ ?_ (fun _ => ?_)
    · exact B20
    clear hK K
    refine wpAnyH_ready (rs := [36]) (by kernel_rfl) (by simp) ?_
    refine AllReadyH.cons rfl (fun K hK => ?_) AllReadyH.nil
    go_simp
    refine (hMul1 _).mono ?_
    rintro e w21 ⟨rfl, hb21⟩
    have B21 := Below.chain B20 hb21
    refine hK.out _ _ ?_ (fun _ => ?_)
    · exact B21
    clear hK K
    refine take_at 38 (some 61) (.bool false) rfl rfl (by kernel_rfl) (by kernel_rfl) (by kernel_rfl) (fun _ _ _ h => h) (by rfl) (fun W hSw => by go_simp) B21 ?_
    simp only [Act.put, List.setIfInBounds_toArray, List.set_cons_zero, List.set_cons_succ]
    refine take_at 39 (some 62) (.bool false) rfl rfl (by kernel_rfl) (by kernel_rfl) (by kernel_rfl) (fun _ _ _ h => h) (by rfl) (fun W hSw => by go_simp) B21 ?_
    simp only [Act.put, List.setIfInBounds_toArray, List.set_cons_zero, List.set_cons_succ]
    refine take_at 40 (some 63) (.bool false) rfl rfl (by kernel_rfl) (by kernel_rfl) (by kernel_rfl) (fun _ _ _ h => h) (by rfl) (fun W hSw => by go_simp) B21 ?_
    simp only [Act.put, List.setIfInBounds_toArray, List.set_cons_zero, List.set_cons_succ]
    refine take_at 41 (some 64) (.agg #[.bool o, .int .i64 n]) rfl rfl (by kernel_rfl) (by kernel_rfl) (by kernel_rfl) (fun _ _ _ h => h) (by rfl) (fun W hSw => by go_simp) B21 ?_
    simp only [Act.put, List.setIfInBounds_toArray, List.set_cons_zero, List.set_cons_succ]
    refine take_at 44 (some 67) (.agg #[.bool o, .int .i64 n]) rfl rfl (by kernel_rfl) (by kernel_rfl) (by kernel_rfl) (fun _ _ _ h => h) (by rfl) (fun W hSw => by go_simp) B21 ?_
    simp only [Act.put, List.setIfInBounds_toArray, List.set_cons_zero, List.set_cons_succ]
    refine wpAnyH_ready (rs := [42]) (by kernel_rfl) (by simp) ?_
    refine AllReadyH.cons rfl (fun K hK => ?_) AllReadyH.nil
    go_simp
    refine (hOf1 _).mono ?_
    rintro e w22 ⟨rfl, hb22⟩
    have B22 := Below.chain B21 hb22
    refine hK.out _ _ ?_ (fun _ => ?_)
    · exact B22
    clear hK K
    refine wpAnyH_ready (rs := [43]) (by kernel_rfl) (by simp) ?_
    refine AllReadyH.cons rfl (fun K hK => ?_) AllReadyH.nil
    go_simp
    refine (hDiv1 _).mono ?_
    rintro e w23 ⟨rfl, hb23⟩
    have B23 := Below.chain B22 hb23
    refine hK.out _ _ ?_ (fun _ => ?_)
    · exact B23
    clear hK K
    refine take_at 45 (some 68) (.bool false) rfl rfl (by kernel_rfl) (by kernel_rfl) (by kernel_rfl) (fun _ _ _ h => h) (by rfl) (fun W hSw => by go_simp) B23 ?_
    simp only [Act.put, List.setIfInBounds_toArray, List.set_cons_zero, List.set_cons_succ]
    refine take_at 46 (some 69) (.bool false) rfl rfl (by kernel_rfl) (by kernel_rfl) (by kernel_rfl) (fun _ _ _ h => h) (by rfl) (fun W hSw => by go_simp) B23 ?_
    simp only [Act.put, List.setIfInBounds_toArray, List.set_cons_zero, List.set_cons_succ]
    refine take_at 47 (some 70) (.bool false) rfl rfl (by kernel_rfl) (by kernel_rfl) (by kernel_rfl) (fun _ _ _ h => h) (by rfl) (fun W hSw => by go_simp) B23 ?_
    simp only [Act.put, List.setIfInBounds_toArray, List.set_cons_zero, List.set_cons_succ]
    refine take_at 48 (some 71) (.agg #[.bool o, .int .i64 n]) rfl rfl (by kernel_rfl) (by kernel_rfl) (by kernel_rfl) (fun _ _ _ h => h) (by rfl) (fun W hSw => by go_simp) B23 ?_
    simp only [Act.put, List.setIfInBounds_toArray, List.set_cons_zero, List.set_cons_succ]
    refine take_at 49 (some 72) (.agg #[.bool false, .int .i64 0]) rfl rfl (by kernel_rfl) (by kernel_rfl) (by kernel_rfl) (fun _ _ _ h => h) (by rfl) (fun W hSw => by go_simp) B23 ?_
    simp only [Act.put, List.setIfInBounds_toArray, List.set_cons_zero, List.set_cons_succ]
    refine take_at 51 (some 74) (.agg #[.bool o, .int .i64 n]) rfl rfl (by kernel_rfl) (by kernel_rfl) (by kernel_rfl) (fun _ _ _ h => h) (by rfl) (fun W hSw => by go_simp) B23 ?_
    simp only [Act.put, List.setIfInBounds_toArray, List.set_cons_zero, List.set_cons_succ]
    refine wpAnyH_ready (rs := [50]) (by kernel_rfl) (by simp) ?_
    refine AllReadyH.cons rfl (fun K hK => ?_) AllReadyH.nil
    go_simp
    refine (hAdd0 _).mono ?_
    rintro e w24 ⟨rfl, hb24⟩
    have B24 := Below.chain B23 hb24
    refine hK.out _ _ ?_ (fun _ => ?_)
    · exact B24
    clear hK K
    refine take_at 52 (some 75) (.bool false) rfl rfl (by kernel_rfl) (by kernel_rfl) (by kernel_rfl) (fun _ _ _ h => h) (by rfl) (fun W hSw => by go_simp) B24 ?_
    simp only [Act.put, List.setIfInBounds_toArray, List.set_cons_zero, List.set_cons_succ]
    refine take_at 53 (some 76) (.bool false) rfl rfl (by kernel_rfl) (by kernel_rfl) (by kernel_rfl) (fun _ _ _ h => h) (by rfl) (fun W hSw => by go_simp) B24 ?_
    simp only [Act.put, List.setIfInBounds_toArray, List.set_cons_zero, List.set_cons_succ]
    refine wpAnyH_done (by kernel_rfl) ?_ _
    refine NoPanic.normal ?_
    go_wp2_with fail
    go_meet
    exact ⟨rfl, hx.later B24, hy.later B24, hz.later B24, Below.chain hb B24⟩
  case rest =>
    clear hx hy hz hb
    obtain ⟨rfl, hx, hy, hz, hb⟩ := hcut
    go_upto_region 7 with fail
    generalize wc = w1 at *
    go_cut [7] from 77 to 81 (fun a wx => ∃ b7 : Nat, a = .pointer (some ⟨b7, 0, none⟩) ∧ Box wx b7 (ov sv) (nn sv) ∧ Box wx w.heap.size o n ∧ Box wx (w.heap.size + 1) p m ∧ Box wx (w.heap.size + 1 + 1) q k ∧ Below w.heap.size w wx)
    case first =>
      have m0 := hx.at0
      have m1 := hx.at1
      have m2 := hy.at0
      have m3 := hy.at1
      refine wp_region_noPanic ?_
      refine wp_region_held_drew (S := fun W => Below w1.heap.size w1 W) (by kernel_rfl) ?_ (fun _ => ?_)
      · exact (Below.refl _ _).drew
      have B2 : Below w1.heap.size w1 w1.drew := (Below.refl _ _).drew
      generalize w1.drew = w2 at *
      refine take_at 0 (some 77) (.agg #[.bool o, .int .i64 n]) rfl rfl (by kernel_rfl) (by kernel_rfl) (by kernel_rfl) (fun _ _ _ h => h) (by rfl) (fun W hSw => by go_simp) B2 ?_
      simp only [Act.put, List.setIfInBounds_toArray, List.set_cons_zero, List.set_cons_succ]
      refine take_at 1 (some 78) (.agg #[.bool p, .int .i64 m]) rfl rfl (by kernel_rfl) (by kernel_rfl) (by kernel_rfl) (fun _ _ _ h => h) (by rfl) (fun W hSw => by go_simp) B2 ?_
      simp only [Act.put, List.setIfInBounds_toArray, List.set_cons_zero, List.set_cons_succ]
      refine take_at 3 (some 80) (.agg #[.bool p, .int .i64 m]) rfl rfl (by kernel_rfl) (by kernel_rfl) (by kernel_rfl) (fun _ _ _ h => h) (by rfl) (fun W hSw => by go_simp) B2 ?_
      simp only [Act.put, List.setIfInBounds_toArray, List.set_cons_zero, List.set_cons_succ]
      refine wpAnyH_ready (rs := [2, 5]) (by kernel_rfl) (by simp) ?_
      refine AllReadyH.cons rfl (fun K hK => ?_) (AllReadyH.cons rfl (fun K hK => ?_) AllReadyH.nil)
      · go_simp
        refine (hAdd _).mono ?_
        rintro e w11 ⟨rfl, hb11⟩
        have B11 := Below.chain B2 hb11
        refine hK.out _ _ ?_ (fun _ => ?_)
        · exact B11
        clear hK K
        refine wpAnyH_ready (rs := [4, 5]) (by kernel_rfl) (by simp) ?_
        refine AllReadyH.cons rfl (fun K hK => ?_) (AllReadyH.cons rfl (fun K hK => ?_) AllReadyH.nil)
        · go_simp
          refine (hSubS _).mono ?_
          rintro e w12 ⟨rfl, hb12⟩
          have B12 := Below.chain B11 hb12
          refine hK.out _ _ ?_ (fun _ => ?_)
          · exact B12
          clear hK K
          refine wpAnyH_ready (rs := [5]) (by kernel_rfl) (by simp) ?_
          refine AllReadyH.cons rfl (fun K hK => ?_) AllReadyH.nil
          go_simp
          have bx13 := Box.new w12 false 0
          have HL13 : Hid (w1.heap.size ≤ w12.heap.size) := B12.size
          have E13 := bal (Below.refl _ w12) (.cells #[.bool false, .int .i64 0] 23)
          have B13 := Below.chain B12 E13
          refine hK.out _ _ ?_ (fun _ => ?_)
          · exact B13
          clear hK K
          generalize w12.alloc (.cells #[.bool false, .int .i64 0] 23) = w13 at *
          refine wpAnyH_ready (rs := [6]) (by kernel_rfl) (by simp) ?_
          refine AllReadyH.cons rfl (fun K hK => ?_) AllReadyH.nil
          have q14 := bx13.put (p := ((ov (sv)))) (m := ((nn (sv))))
          have D14 := put2 B13 (b := w12.heap.size) HL13.out ((ov (sv))) ((nn (sv)))
          have c0 := bx13.c0
          have c1 := bx13.c1
          have f0 := bx13.f0
          have f1 := bx13.f1
          go_simp
          refine hK.out _ _ ?_ (fun _ => ?_)
          · exact D14
          clear hK K
          clear c0 c1 f0 f1
          refine wpAnyH_done (by kernel_rfl) ?_ _
          refine NoPanic.normal ?_
          go_wp2_with fail
          go_meet
          exact ⟨_, rfl, q14, hx.later D14, hy.later D14, hz.later D14, Below.chain hb D14⟩
        · go_simp
          have bx15 := Box.new w11 false 0
          have HL15 : Hid (w1.heap.size ≤ w11.heap.size) := B11.size
          have E15 := bal (Below.refl _ w11) (.cells #[.bool false, .int .i64 0] 23)
          have B15 := Below.chain B11 E15
          refine hK.out _ _ ?_ (fun _ => ?_)
          · exact B15
          clear hK K
          generalize w11.alloc (.cells #[.bool false, .int .i64 0] 23) = w15 at *
          refine wpAnyH_ready (rs := [4]) (by kernel_rfl) (by simp) ?_
          refine AllReadyH.cons rfl (fun K hK => ?_) AllReadyH.nil
          go_simp
          refine (hSubS _).mono ?_
          rintro e w16 ⟨rfl, hb16⟩
          have B16 := Below.chain B15 hb16
          have bx15_16 := bx15.later hb16
          refine hK.out _ _ ?_ (fun _ => ?_)
          · exact B16
          clear hK K
          refine wpAnyH_ready (rs := [6]) (by kernel_rfl) (by simp) ?_
          refine AllReadyH.cons rfl (fun K hK => ?_) AllReadyH.nil
          have q17 := bx15_16.put (p := ((ov (sv)))) (m := ((nn (sv))))
          have D17 := put2 B16 (b := w11.heap.size) HL15.out ((ov (sv))) ((nn (sv)))
          have c0 := bx15_16.c0
          have c1 := bx15_16.c1
          have f0 := bx15_16.f0
          have f1 := bx15_16.f1
          go_simp
          refine hK.out _ _ ?_ (fun _ => ?_)
          · exact D17
          clear hK K
          clear c0 c1 f0 f1
          refine wpAnyH_done (by kernel_rfl) ?_ _
          refine NoPanic.normal ?_
          go_wp2_with fail
          go_meet
          exact ⟨_, rfl, q17, hx.later D17, hy.later D17, hz.later D17, Below.chain hb D17⟩
      · go_simp
        have bx18 := Box.new w2 false 0
        have HL18 : Hid (w1.heap.size ≤ w2.heap.size) := B2.size
        have E18 := bal (Below.refl _ w2) (.cells #[.bool false, .int .i64 0] 23)
        have B18 := Below.chain B2 E18
        refine hK.out _ _ ?_ (fun _ => ?_)
        · exact B18
        clear hK K
        generalize w2.alloc (.cells #[.bool false, .int .i64 0] 23) = w18 at *
        refine wpAnyH_ready (rs := [2]) (by kernel_rfl) (by simp) ?_
        refine AllReadyH.cons rfl (fun K hK => ?_) AllReadyH.nil
        go_simp
        refine (hAdd _).mono ?_
        rintro e w19 ⟨rfl, hb19⟩
        have B19 := Below.chain B18 hb19
        have bx18_19 := bx18.later hb19
        refine hK.out _ _ ?_ (fun _ => ?_)
        · exact B19
        clear hK K
        refine wpAnyH_ready (rs := [4]) (by kernel_rfl) (by simp) ?_
        refine AllReadyH.cons rfl (fun K hK => ?_) AllReadyH.nil
        go_simp
        refine (hSubS _).mono ?_
        rintro e w20 ⟨rfl, hb20⟩
        have B20 := Below.chain B19 hb20
        have bx18_19_20 := bx18_19.later hb20
        refine hK.out _ _ ?_ (fun _ => ?_)
        · exact B20
        clear hK K
        refine wpAnyH_ready (rs := [6]) (by kernel_rfl) (by simp) ?_
        refine AllReadyH.cons rfl (fun K hK => ?_) AllReadyH.nil
        have q21 := bx18_19_20.put (p := ((ov (sv)))) (m := ((nn (sv))))
        have D21 := put2 B20 (b := w2.heap.size) HL18.out ((ov (sv))) ((nn (sv)))
        have c0 := bx18_19_20.c0
        have c1 := bx18_19_20.c1
        have f0 := bx18_19_20.f0
        have f1 := bx18_19_20.f1
        go_simp
        refine hK.out _ _ ?_ (fun _ => ?_)
        · exact D21
        clear hK K
        clear c0 c1 f0 f1
        refine wpAnyH_done (by kernel_rfl) ?_ _
        refine NoPanic.normal ?_
        go_wp2_with fail
        go_meet
        exact ⟨_, rfl, q21, hx.later D21, hy.later D21, hz.later D21, Below.chain hb D21⟩
    case rest =>
      clear hx hy hz hb
      obtain ⟨b7, rfl, h7, hx, hy, hz, hb⟩ := hcut
      by_cases hov : ov sv = true
      · rw [hov] at h7
        go_upto_region 8 with fail
        generalize wc = w1 at *
        have m0 := hx.at0
        have m1 := hx.at1
        have m2 := hy.at0
        have m3 := hy.at1
        have m4 := hz.at0
        have m5 := hz.at1
        have m6 := h7.at0
        refine wp_region_noPanic ?_
        refine wp_region_held_drew (S := fun W => Below w1.heap.size w1 W) (by kernel_rfl) ?_ (fun _ => ?_)
        · exact (Below.refl _ _).drew
        have B2 : Below w1.heap.size w1 w1.drew := (Below.refl _ _).drew
        generalize w1.drew = w2 at *
        refine take_at 0 (some 82) (.pointer (some ⟨b7, 0, none⟩)) rfl rfl (by kernel_rfl) (by kernel_rfl) (by kernel_rfl) (fun _ _ _ h => h) (by rfl) (fun W hSw => by go_simp) B2 ?_
        simp only [Act.put, List.setIfInBounds_toArray, List.set_cons_zero, List.set_cons_succ]
        refine take_at 1 (some 83) (.bool true) rfl rfl (by kernel_rfl) (by kernel_rfl) (by kernel_rfl) (fun _ _ _ h => h) (by rfl) (fun W hSw => by go_simp) B2 ?_
        simp only [Act.put, List.setIfInBounds_toArray, List.set_cons_zero, List.set_cons_succ]
        refine take_at 2 (some 84) (.bool true) rfl rfl (by kernel_rfl) (by kernel_rfl) (by kernel_rfl) (fun _ _ _ h => h) (by rfl) (fun W hSw => by go_simp) B2 ?_
        simp only [Act.put, List.setIfInBounds_toArray, List.set_cons_zero, List.set_cons_succ]
        refine skip_at 3 (some 85) rfl rfl (by kernel_rfl) (by kernel_rfl) (by kernel_rfl) (fun _ _ _ h => h) (by rfl) B2 ?_
        simp only [Act.put, List.setIfInBounds_toArray, List.set_cons_zero, List.set_cons_succ]
        refine skip_at 4 (some 86) rfl rfl (by kernel_rfl) (by kernel_rfl) (by kernel_rfl) (fun _ _ _ h => h) (by rfl) B2 ?_
        simp only [Act.put, List.setIfInBounds_toArray, List.set_cons_zero, List.set_cons_succ]
        refine skip_at 5 (some 87) rfl rfl (by kernel_rfl) (by kernel_rfl) (by kernel_rfl) (fun _ _ _ h => h) (by rfl) B2 ?_
        simp only [Act.put, List.setIfInBounds_toArray, List.set_cons_zero, List.set_cons_succ]
        refine take_at 6 (some 88) (.bool true) rfl rfl (by kernel_rfl) (by kernel_rfl) (by kernel_rfl) (fun _ _ _ h => h) (by rfl) (fun W hSw => by go_simp) B2 ?_
        simp only [Act.put, List.setIfInBounds_toArray, List.set_cons_zero, List.set_cons_succ]
        refine take_at 7 (some 89) (.bool true) rfl rfl (by kernel_rfl) (by kernel_rfl) (by kernel_rfl) (fun _ _ _ h => h) (by rfl) (fun W hSw => by go_simp) B2 ?_
        simp only [Act.put, List.setIfInBounds_toArray, List.set_cons_zero, List.set_cons_succ]
        refine take_at 8 (some 90) (.agg #[.bool o, .int .i64 n]) rfl rfl (by kernel_rfl) (by kernel_rfl) (by kernel_rfl) (fun _ _ _ h => h) (by rfl) (fun W hSw => by go_simp) B2 ?_
        simp only [Act.put, List.setIfInBounds_toArray, List.set_cons_zero, List.set_cons_succ]
        refine take_at 10 (some 92) (.agg #[.bool p, .int .i64 m]) rfl rfl (by kernel_rfl) (by kernel_rfl) (by kernel_rfl) (fun _ _ _ h => h) (by rfl) (fun W hSw => by go_simp) B2 ?_
        simp only [Act.put, List.setIfInBounds_toArray, List.set_cons_zero, List.set_cons_succ]
        refine take_at 12 (some 94) (.agg #[.bool o, .int .i64 n]) rfl rfl (by kernel_rfl) (by kernel_rfl) (by kernel_rfl) (fun _ _ _ h => h) (by rfl) (fun W hSw => by go_simp) B2 ?_
        simp only [Act.put, List.setIfInBounds_toArray, List.set_cons_zero, List.set_cons_succ]
        refine take_at 13 (some 95) (.agg #[.bool p, .int .i64 m]) rfl rfl (by kernel_rfl) (by kernel_rfl) (by kernel_rfl) (fun _ _ _ h => h) (by rfl) (fun W hSw => by go_simp) B2 ?_
        simp only [Act.put, List.setIfInBounds_toArray, List.set_cons_zero, List.set_cons_succ]
        refine wpAnyH_ready (rs := [9]) (by kernel_rfl) (by simp) ?_
        refine AllReadyH.cons rfl (fun K hK => ?_) AllReadyH.nil
        go_simp
        refine (hNegA _).mono ?_
        rintro e w11 ⟨rfl, hb11⟩
        have B11 := Below.chain B2 hb11
        refine hK.out _ _ ?_ (fun _ => ?_)
        · exact B11
        clear hK K
        refine wpAnyH_ready (rs := [11]) (by kernel_rfl) (by simp) ?_
        refine AllReadyH.cons rfl (fun K hK => ?_) AllReadyH.nil
        go_simp
        refine (hMulN _).mono ?_
        rintro e w12 ⟨rfl, hb12⟩
        have B12 := Below.chain B11 hb12
        refine hK.out _ _ ?_ (fun _ => ?_)
        · exact B12
        clear hK K
        refine wpAnyH_ready (rs := [14]) (by kernel_rfl) (by simp) ?_
        refine AllReadyH.cons rfl (fun K hK => ?_) AllReadyH.nil
        go_simp
        refine (hMul _).mono ?_
        rintro e w13 ⟨rfl, hb13⟩
        have B13 := Below.chain B12 hb13
        refine hK.out _ _ ?_ (fun _ => ?_)
        · exact B13
        clear hK K
        refine wpAnyH_ready (rs := [15]) (by kernel_rfl) (by simp) ?_
        refine AllReadyH.cons rfl (fun K hK => ?_) AllReadyH.nil
        go_simp
        refine (hNegM _).mono ?_
        rintro e w14 ⟨rfl, hb14⟩
        have B14 := Below.chain B13 hb14
        refine hK.out _ _ ?_ (fun _ => ?_)
        · exact B14
        clear hK K
        refine take_at 16 (some 98) (.bool true) rfl rfl (by kernel_rfl) (by kernel_rfl) (by kernel_rfl) (fun _ _ _ h => h) (by rfl) (fun W hSw => by go_simp) B14 ?_
        simp only [Act.put, List.setIfInBounds_toArray, List.set_cons_zero, List.set_cons_succ]
        refine take_at 17 (some 99) (.bool true) rfl rfl (by kernel_rfl) (by kernel_rfl) (by kernel_rfl) (fun _ _ _ h => h) (by rfl) (fun W hSw => by go_simp) B14 ?_
        simp only [Act.put, List.setIfInBounds_toArray, List.set_cons_zero, List.set_cons_succ]
        refine take_at 18 (some 100) (.bool true) rfl rfl (by kernel_rfl) (by kernel_rfl) (by kernel_rfl) (fun _ _ _ h => h) (by rfl) (fun W hSw => by go_simp) B14 ?_
        simp only [Act.put, List.setIfInBounds_toArray, List.set_cons_zero, List.set_cons_succ]
        refine take_at 19 (some 101) (.agg #[.bool o, .int .i64 n]) rfl rfl (by kernel_rfl) (by kernel_rfl) (by kernel_rfl) (fun _ _ _ h => h) (by rfl) (fun W hSw => by go_simp) B14 ?_
        simp only [Act.put, List.setIfInBounds_toArray, List.set_cons_zero, List.set_cons_succ]
        refine take_at 20 (some 102) (.agg #[.bool p, .int .i64 m]) rfl rfl (by kernel_rfl) (by kernel_rfl) (by kernel_rfl) (fun _ _ _ h => h) (by rfl) (fun W hSw => by go_simp) B14 ?_
        simp only [Act.put, List.setIfInBounds_toArray, List.set_cons_zero, List.set_cons_succ]
        refine take_at 21 (some 103) (.agg #[.bool q, .int .i64 k]) rfl rfl (by kernel_rfl) (by kernel_rfl) (by kernel_rfl) (fun _ _ _ h => h) (by rfl) (fun W hSw => by go_simp) B14 ?_
        simp only [Act.put, List.setIfInBounds_toArray, List.set_cons_zero, List.set_cons_succ]
        refine take_at 24 (some 106) (.agg #[.bool q, .int .i64 k]) rfl rfl (by kernel_rfl) (by kernel_rfl) (by kernel_rfl) (fun _ _ _ h => h) (by rfl) (fun W hSw => by go_simp) B14 ?_
        simp only [Act.put, List.setIfInBounds_toArray, List.set_cons_zero, List.set_cons_succ]
        refine take_at 25 (some 107) (.agg #[.bool o, .int .i64 n]) rfl rfl (by kernel_rfl) (by kernel_rfl) (by kernel_rfl) (fun _ _ _ h => h) (by rfl) (fun W hSw => by go_simp) B14 ?_
        simp only [Act.put, List.setIfInBounds_toArray, List.set_cons_zero, List.set_cons_succ]
        refine take_at 26 (some 108) (.agg #[.bool p, .int .i64 m]) rfl rfl (by kernel_rfl) (by kernel_rfl) (by kernel_rfl) (fun _ _ _ h => h) (by rfl) (fun W hSw => by go_simp) B14 ?_
        simp only [Act.put, List.setIfInBounds_toArray, List.set_cons_zero, List.set_cons_succ]
        refine wpAnyH_ready (rs := [22, 27]) (by kernel_rfl) (by simp) ?_
        refine AllReadyH.cons rfl (fun K hK => ?_) (AllReadyH.cons rfl (fun K hK => ?_) AllReadyH.nil)
        · go_simp
          have sl15 := Ns.three w14 (o) (p) (q) (n) (m) (k)
          have E15 := bal (Below.refl _ w14) (.cells #[.bool o, .int .i64 n, .bool p, .int .i64 m, .bool q, .int .i64 k] 23)
          have B15 := Below.chain B14 E15
          refine hK.out _ _ ?_ (fun _ => ?_)
          · exact B15
          clear hK K
          generalize w14.alloc (.cells #[.bool o, .int .i64 n, .bool p, .int .i64 m, .bool q, .int .i64 k] 23) = w15 at *
          refine wpAnyH_ready (rs := [23, 27]) (by kernel_rfl) (by simp) ?_
          refine AllReadyH.cons rfl (fun K hK => ?_) (AllReadyH.cons rfl (fun K hK => ?_) AllReadyH.nil)
          · go_simp
            refine (hS3 _ _ sl15).mono ?_
            rintro e w16 ⟨rfl, hb16⟩
            have B16 := Below.chain B15 hb16
            have sl15_16 := sl15.later hb16
            refine hK.out _ _ ?_ (fun _ => ?_)
            · exact B16
            clear hK K
            refine wpAnyH_ready (rs := [27]) (by kernel_rfl) (by simp) ?_
            refine AllReadyH.cons rfl (fun K hK => ?_) AllReadyH.nil
            go_simp
            have sl17 := Ns.three w16 (q) (o) (p) (k) (n) (m)
            have E17 := bal (Below.refl _ w16) (.cells #[.bool q, .int .i64 k, .bool o, .int .i64 n, .bool p, .int .i64 m] 23)
            have B17 := Below.chain B16 E17
            have sl15_16_17 := sl15_16.later E17
            refine hK.out _ _ ?_ (fun _ => ?_)
            · exact B17
            clear hK K
            generalize w16.alloc (.cells #[.bool q, .int .i64 k, .bool o, .int .i64 n, .bool p, .int .i64 m] 23) = w17 at *
            refine wpAnyH_ready (rs := [28]) (by kernel_rfl) (by simp) ?_
            refine AllReadyH.cons rfl (fun K hK => ?_) AllReadyH.nil
            go_simp
            refine (hS3t _ _ sl17).mono ?_
            rintro e w18 ⟨rfl, hb18⟩
            have B18 := Below.chain B17 hb18
            have sl15_16_17_18 := sl15_16_17.later hb18
            have sl17_18 := sl17.later hb18
            refine hK.out _ _ ?_ (fun _ => ?_)
            · exact B18
            clear hK K
            refine take_at 29 (some 111) (.bool true) rfl rfl (by kernel_rfl) (by kernel_rfl) (by kernel_rfl) (fun _ _ _ h => h) (by rfl) (fun W hSw => by go_simp) B18 ?_
            simp only [Act.put, List.setIfInBounds_toArray, List.set_cons_zero, List.set_cons_succ]
            refine take_at 30 (some 112) (.bool true) rfl rfl (by kernel_rfl) (by kernel_rfl) (by kernel_rfl) (fun _ _ _ h => h) (by rfl) (fun W hSw => by go_simp) B18 ?_
            simp only [Act.put, List.setIfInBounds_toArray, List.set_cons_zero, List.set_cons_succ]
            refine take_at 31 (some 113) (.bool true) rfl rfl (by kernel_rfl) (by kernel_rfl) (by kernel_rfl) (fun _ _ _ h => h) (by rfl) (fun W hSw => by go_simp) B18 ?_
            simp only [Act.put, List.setIfInBounds_toArray, List.set_cons_zero, List.set_cons_succ]
            refine take_at 32 (some 114) (.agg #[.bool o, .int .i64 n]) rfl rfl (by kernel_rfl) (by kernel_rfl) (by kernel_rfl) (fun _ _ _ h => h) (by rfl) (fun W hSw => by go_simp) B18 ?_
            simp only [Act.put, List.setIfInBounds_toArray, List.set_cons_zero, List.set_cons_succ]
            refine take_at 33 (some 115) (.agg #[.bool p, .int .i64 m]) rfl rfl (by kernel_rfl) (by kernel_rfl) (by kernel_rfl) (fun _ _ _ h => h) (by rfl) (fun W hSw => by go_simp) B18 ?_
            simp only [Act.put, List.setIfInBounds_toArray, List.set_cons_zero, List.set_cons_succ]
            refine take_at 36 (some 118) (.agg #[.bool o, .int .i64 n]) rfl rfl (by kernel_rfl) (by kernel_rfl) (by kernel_rfl) (fun _ _ _ h => h) (by rfl) (fun W hSw => by go_simp) B18 ?_
            simp only [Act.put, List.setIfInBounds_toArray, List.set_cons_zero, List.set_cons_succ]
            refine take_at 37 (some 119) (.agg #[.bool p, .int .i64 m]) rfl rfl (by kernel_rfl) (by kernel_rfl) (by kernel_rfl) (fun _ _ _ h => h) (by rfl) (fun W hSw => by go_simp) B18 ?_
            simp only [Act.put, List.setIfInBounds_toArray, List.set_cons_zero, List.set_cons_succ]
            refine wpAnyH_ready (rs := [34]) (by kernel_rfl) (by simp) ?_
            refine AllReadyH.cons rfl (fun K hK => ?_) AllReadyH.nil
            go_simp
            have sl19 := Ns.two w18 (o) (p) (n) (m)
            have E19 := bal (Below.refl _ w18) (.cells #[.bool o, .int .i64 n, .bool p, .int .i64 m] 23)
            have B19 := Below.chain B18 E19
            have sl15_16_17_18_19 := sl15_16_17_18.later E19
            have sl17_18_19 := sl17_18.later E19
            refine hK.out _ _ ?_ (fun _ => ?_)
            · exact B19
            clear hK K
            generalize w18.alloc (.cells #[.bool o, .int .i64 n, .bool p, .int .i64 m] 23) = w19 at *
            refine wpAnyH_ready (rs := [35]) (by kernel_rfl) (by simp) ?_
            refine AllReadyH.cons rfl (fun K hK => ?_) AllReadyH.nil
            go_simp
            refine (hS2 _ _ sl19).mono ?_
            rintro e w20 ⟨rfl, hb20⟩
            have B20 := Below.chain B19 hb20
            have sl15_16_17_18_19_20 := sl15_16_17_18_19.later hb20
            have sl17_18_19_20 := sl17_18_19.later hb20
            have sl19_20 := sl19.later hb20
            refine hK.out _ _ ?_ (fun _ => ?_)
            · exact B20
            clear hK K
            refine wpAnyH_ready (rs := [38]) (by kernel_rfl) (by simp) ?_
            refine AllReadyH.cons rfl (fun K hK => ?_) AllReadyH.nil
            go_simp
            refine (hAdd _).mono ?_
            rintro e w21 ⟨rfl, hb21⟩
            have B21 := Below.chain B20 hb21
            have sl15_16_17_18_19_20_21 := sl15_16_17_18_19_20.later hb21
            have sl17_18_19_20_21 := sl17_18_19_20.later hb21
            have sl19_20_21 := sl19_20.later hb21
            refine hK.out _ _ ?_ (fun _ => ?_)
            · exact B21
            clear hK K
            refine take_at 39 (some 121) (.bool true) rfl rfl (by kernel_rfl) (by kernel_rfl) (by kernel_rfl) (fun _ _ _ h => h) (by rfl) (fun W hSw => by go_simp) B21 ?_
            simp only [Act.put, List.setIfInBounds_toArray, List.set_cons_zero, List.set_cons_succ]
            refine take_at 40 (some 122) (.bool true) rfl rfl (by kernel_rfl) (by kernel_rfl) (by kernel_rfl) (fun _ _ _ h => h) (by rfl) (fun W hSw => by go_simp) B21 ?_
            simp only [Act.put, List.setIfInBounds_toArray, List.set_cons_zero, List.set_cons_succ]
            refine take_at 41 (some 6) (.bool true) rfl rfl (by kernel_rfl) (by kernel_rfl) (by kernel_rfl) (fun _ _ _ h => h) (by rfl) (fun W hSw => by go_simp) B21 ?_
            simp only [Act.put, List.setIfInBounds_toArray, List.set_cons_zero, List.set_cons_succ]
            refine wpAnyH_done (by kernel_rfl) ?_ _
            refine NoPanic.normal ?_
            go_wp2
            go_ret
            exact ⟨rfl, Below.chain hb B21⟩
          · go_simp
            have sl22 := Ns.three w15 (q) (o) (p) (k) (n) (m)
            have E22 := bal (Below.refl _ w15) (.cells #[.bool q, .int .i64 k, .bool o, .int .i64 n, .bool p, .int .i64 m] 23)
            have B22 := Below.chain B15 E22
            have sl15_22 := sl15.later E22
            refine hK.out _ _ ?_ (fun _ => ?_)
            · exact B22
            clear hK K
            generalize w15.alloc (.cells #[.bool q, .int .i64 k, .bool o, .int .i64 n, .bool p, .int .i64 m] 23) = w22 at *
            refine wpAnyH_ready (rs := [23]) (by kernel_rfl) (by simp) ?_
            refine AllReadyH.cons rfl (fun K hK => ?_) AllReadyH.nil
            go_simp
            refine (hS3 _ _ sl15_22).mono ?_
            rintro e w23 ⟨rfl, hb23⟩
            have B23 := Below.chain B22 hb23
            have sl15_22_23 := sl15_22.later hb23
            have sl22_23 := sl22.later hb23
            refine hK.out _ _ ?_ (fun _ => ?_)
            · exact B23
            clear hK K
            refine wpAnyH_ready (rs := [28]) (by kernel_rfl) (by simp) ?_
            refine AllReadyH.cons rfl (fun K hK => ?_) AllReadyH.nil
            go_simp
            refine (hS3t _ _ sl22_23).mono ?_
            rintro e w24 ⟨rfl, hb24⟩
            have B24 := Below.chain B23 hb24
            have sl15_22_23_24 := sl15_22_23.later hb24
            have sl22_23_24 := sl22_23.later hb24
            refine hK.out _ _ ?_ (fun _ => ?_)
            · exact B24
            clear hK K
            refine take_at 29 (some 111) (.bool true) rfl rfl (by kernel_rfl) (by kernel_rfl) (by kernel_rfl) (fun _ _ _ h => h) (by rfl) (fun W hSw => by go_simp) B24 ?_
            simp only [Act.put, List.setIfInBounds_toArray, List.set_cons_zero, List.set_cons_succ]
            refine take_at 30 (some 112) (.bool true) rfl rfl (by kernel_rfl) (by kernel_rfl) (by kernel_rfl) (fun _ _ _ h => h) (by rfl) (fun W hSw => by go_simp) B24 ?_
            simp only [Act.put, List.setIfInBounds_toArray, List.set_cons_zero, List.set_cons_succ]
            refine take_at 31 (some 113) (.bool true) rfl rfl (by kernel_rfl) (by kernel_rfl) (by kernel_rfl) (fun _ _ _ h => h) (by rfl) (fun W hSw => by go_simp) B24 ?_
            simp only [Act.put, List.setIfInBounds_toArray, List.set_cons_zero, List.set_cons_succ]
            refine take_at 32 (some 114) (.agg #[.bool o, .int .i64 n]) rfl rfl (by kernel_rfl) (by kernel_rfl) (by kernel_rfl) (fun _ _ _ h => h) (by rfl) (fun W hSw => by go_simp) B24 ?_
            simp only [Act.put, List.setIfInBounds_toArray, List.set_cons_zero, List.set_cons_succ]
            refine take_at 33 (some 115) (.agg #[.bool p, .int .i64 m]) rfl rfl (by kernel_rfl) (by kernel_rfl) (by kernel_rfl) (fun _ _ _ h => h) (by rfl) (fun W hSw => by go_simp) B24 ?_
            simp only [Act.put, List.setIfInBounds_toArray, List.set_cons_zero, List.set_cons_succ]
            refine take_at 36 (some 118) (.agg #[.bool o, .int .i64 n]) rfl rfl (by kernel_rfl) (by kernel_rfl) (by kernel_rfl) (fun _ _ _ h => h) (by rfl) (fun W hSw => by go_simp) B24 ?_
            simp only [Act.put, List.setIfInBounds_toArray, List.set_cons_zero, List.set_cons_succ]
            refine take_at 37 (some 119) (.agg #[.bool p, .int .i64 m]) rfl rfl (by kernel_rfl) (by kernel_rfl) (by kernel_rfl) (fun _ _ _ h => h) (by rfl) (fun W hSw => by go_simp) B24 ?_
            simp only [Act.put, List.setIfInBounds_toArray, List.set_cons_zero, List.set_cons_succ]
            refine wpAnyH_ready (rs := [34]) (by kernel_rfl) (by simp) ?_
            refine AllReadyH.cons rfl (fun K hK => ?_) AllReadyH.nil
            go_simp
            have sl25 := Ns.two w24 (o) (p) (n) (m)
            have E25 := bal (Below.refl _ w24) (.cells #[.bool o, .int .i64 n, .bool p, .int .i64 m] 23)
            have B25 := Below.chain B24 E25
            have sl15_22_23_24_25 := sl15_22_23_24.later E25
            have sl22_23_24_25 := sl22_23_24.later E25
            refine hK.out _ _ ?_ (fun _ => ?_)
            · exact B25
            clear hK K
            generalize w24.alloc (.cells #[.bool o, .int .i64 n, .bool p, .int .i64 m] 23) = w25 at *
            refine wpAnyH_ready (rs := [35]) (by kernel_rfl) (by simp) ?_
            refine AllReadyH.cons rfl (fun K hK => ?_) AllReadyH.nil
            go_simp
            refine (hS2 _ _ sl25).mono ?_
            rintro e w26 ⟨rfl, hb26⟩
            have B26 := Below.chain B25 hb26
            have sl15_22_23_24_25_26 := sl15_22_23_24_25.later hb26
            have sl22_23_24_25_26 := sl22_23_24_25.later hb26
            have sl25_26 := sl25.later hb26
            refine hK.out _ _ ?_ (fun _ => ?_)
            · exact B26
            clear hK K
            refine wpAnyH_ready (rs := [38]) (by kernel_rfl) (by simp) ?_
            refine AllReadyH.cons rfl (fun K hK => ?_) AllReadyH.nil
            go_simp
            refine (hAdd _).mono ?_
            rintro e w27 ⟨rfl, hb27⟩
            have B27 := Below.chain B26 hb27
            have sl15_22_23_24_25_26_27 := sl15_22_23_24_25_26.later hb27
            have sl22_23_24_25_26_27 := sl22_23_24_25_26.later hb27
            have sl25_26_27 := sl25_26.later hb27
            refine hK.out _ _ ?_ (fun _ => ?_)
            · exact B27
            clear hK K
            refine take_at 39 (some 121) (.bool true) rfl rfl (by kernel_rfl) (by kernel_rfl) (by kernel_rfl) (fun _ _ _ h => h) (by rfl) (fun W hSw => by go_simp) B27 ?_
            simp only [Act.put, List.setIfInBounds_toArray, List.set_cons_zero, List.set_cons_succ]
            refine take_at 40 (some 122) (.bool true) rfl rfl (by kernel_rfl) (by kernel_rfl) (by kernel_rfl) (fun _ _ _ h => h) (by rfl) (fun W hSw => by go_simp) B27 ?_
            simp only [Act.put, List.setIfInBounds_toArray, List.set_cons_zero, List.set_cons_succ]
            refine take_at 41 (some 6) (.bool true) rfl rfl (by kernel_rfl) (by kernel_rfl) (by kernel_rfl) (fun _ _ _ h => h) (by rfl) (fun W hSw => by go_simp) B27 ?_
            simp only [Act.put, List.setIfInBounds_toArray, List.set_cons_zero, List.set_cons_succ]
            refine wpAnyH_done (by kernel_rfl) ?_ _
            refine NoPanic.normal ?_
            go_wp2
            go_ret
            exact ⟨rfl, Below.chain hb B27⟩
        · go_simp
          have sl28 := Ns.three w14 (q) (o) (p) (k) (n) (m)
          have E28 := bal (Below.refl _ w14) (.cells #[.bool q, .int .i64 k, .bool o, .int .i64 n, .bool p, .int .i64 m] 23)
          have B28 := Below.chain B14 E28
          refine hK.out _ _ ?_ (fun _ => ?_)
          · exact B28
          clear hK K
          generalize w14.alloc (.cells #[.bool q, .int .i64 k, .bool o, .int .i64 n, .bool p, .int .i64 m] 23) = w28 at *
          refine wpAnyH_ready (rs := [22]) (by kernel_rfl) (by simp) ?_
          refine AllReadyH.cons rfl (fun K hK => ?_) AllReadyH.nil
          go_simp
          have sl29 := Ns.three w28 (o) (p) (q) (n) (m) (k)
          have E29 := bal (Below.refl _ w28) (.cells #[.bool o, .int .i64 n, .bool p, .int .i64 m, .bool q, .int .i64 k] 23)
          have B29 := Below.chain B28 E29
          have sl28_29 := sl28.later E29
          refine hK.out _ _ ?_ (fun _ => ?_)
          · exact B29
          clear hK K
          generalize w28.alloc (.cells #[.bool o, .int .i64 n, .bool p, .int .i64 m, .bool q, .int .i64 k] 23) = w29 at *
          refine wpAnyH_ready (rs := [23]) (by kernel_rfl) (by simp) ?_
          refine AllReadyH.cons rfl (fun K hK => ?_) AllReadyH.nil
          go_simp
          refine (hS3 _ _ sl29).mono ?_
          rintro e w30 ⟨rfl, hb30⟩
          have B30 := Below.chain B29 hb30
          have sl28_29_30 := sl28_29.later hb30
          have sl29_30 := sl29.later hb30
          refine hK.out _ _ ?_ (fun _ => ?_)
          · exact B30
          clear hK K
          refine wpAnyH_ready (rs := [28]) (by kernel_rfl) (by simp) ?_
          refine AllReadyH.cons rfl (fun K hK => ?_) AllReadyH.nil
          go_simp
          refine (hS3t _ _ sl28_29_30).mono ?_
          rintro e w31 ⟨rfl, hb31⟩
          have B31 := Below.chain B30 hb31
          have sl28_29_30_31 := sl28_29_30.later hb31
          have sl29_30_31 := sl29_30.later hb31
          refine hK.out _ _ ?_ (fun _ => ?_)
          · exact B31
          clear hK K
          refine take_at 29 (some 111) (.bool true) rfl rfl (by kernel_rfl) (by kernel_rfl) (by kernel_rfl) (fun _ _ _ h => h) (by rfl) (fun W hSw => by go_simp) B31 ?_
          simp only [Act.put, List.setIfInBounds_toArray, List.set_cons_zero, List.set_cons_succ]
          refine take_at 30 (some 112) (.bool true) rfl rfl (by kernel_rfl) (by kernel_rfl) (by kernel_rfl) (fun _ _ _ h => h) (by rfl) (fun W hSw => by go_simp) B31 ?_
          simp only [Act.put, List.setIfInBounds_toArray, List.set_cons_zero, List.set_cons_succ]
          refine take_at 31 (some 113) (.bool true) rfl rfl (by kernel_rfl) (by kernel_rfl) (by kernel_rfl) (fun _ _ _ h => h) (by rfl) (fun W hSw => by go_simp) B31 ?_
          simp only [Act.put, List.setIfInBounds_toArray, List.set_cons_zero, List.set_cons_succ]
          refine take_at 32 (some 114) (.agg #[.bool o, .int .i64 n]) rfl rfl (by kernel_rfl) (by kernel_rfl) (by kernel_rfl) (fun _ _ _ h => h) (by rfl) (fun W hSw => by go_simp) B31 ?_
          simp only [Act.put, List.setIfInBounds_toArray, List.set_cons_zero, List.set_cons_succ]
          refine take_at 33 (some 115) (.agg #[.bool p, .int .i64 m]) rfl rfl (by kernel_rfl) (by kernel_rfl) (by kernel_rfl) (fun _ _ _ h => h) (by rfl) (fun W hSw => by go_simp) B31 ?_
          simp only [Act.put, List.setIfInBounds_toArray, List.set_cons_zero, List.set_cons_succ]
          refine take_at 36 (some 118) (.agg #[.bool o, .int .i64 n]) rfl rfl (by kernel_rfl) (by kernel_rfl) (by kernel_rfl) (fun _ _ _ h => h) (by rfl) (fun W hSw => by go_simp) B31 ?_
          simp only [Act.put, List.setIfInBounds_toArray, List.set_cons_zero, List.set_cons_succ]
          refine take_at 37 (some 119) (.agg #[.bool p, .int .i64 m]) rfl rfl (by kernel_rfl) (by kernel_rfl) (by kernel_rfl) (fun _ _ _ h => h) (by rfl) (fun W hSw => by go_simp) B31 ?_
          simp only [Act.put, List.setIfInBounds_toArray, List.set_cons_zero, List.set_cons_succ]
          refine wpAnyH_ready (rs := [34]) (by kernel_rfl) (by simp) ?_
          refine AllReadyH.cons rfl (fun K hK => ?_) AllReadyH.nil
          go_simp
          have sl32 := Ns.two w31 (o) (p) (n) (m)
          have E32 := bal (Below.refl _ w31) (.cells #[.bool o, .int .i64 n, .bool p, .int .i64 m] 23)
          have B32 := Below.chain B31 E32
          have sl28_29_30_31_32 := sl28_29_30_31.later E32
          have sl29_30_31_32 := sl29_30_31.later E32
          refine hK.out _ _ ?_ (fun _ => ?_)
          · exact B32
          clear hK K
          generalize w31.alloc (.cells #[.bool o, .int .i64 n, .bool p, .int .i64 m] 23) = w32 at *
          refine wpAnyH_ready (rs := [35]) (by kernel_rfl) (by simp) ?_
          refine AllReadyH.cons rfl (fun K hK => ?_) AllReadyH.nil
          go_simp
          refine (hS2 _ _ sl32).mono ?_
          rintro e w33 ⟨rfl, hb33⟩
          have B33 := Below.chain B32 hb33
          have sl28_29_30_31_32_33 := sl28_29_30_31_32.later hb33
          have sl29_30_31_32_33 := sl29_30_31_32.later hb33
          have sl32_33 := sl32.later hb33
          refine hK.out _ _ ?_ (fun _ => ?_)
          · exact B33
          clear hK K
          refine wpAnyH_ready (rs := [38]) (by kernel_rfl) (by simp) ?_
          refine AllReadyH.cons rfl (fun K hK => ?_) AllReadyH.nil
          go_simp
          refine (hAdd _).mono ?_
          rintro e w34 ⟨rfl, hb34⟩
          have B34 := Below.chain B33 hb34
          have sl28_29_30_31_32_33_34 := sl28_29_30_31_32_33.later hb34
          have sl29_30_31_32_33_34 := sl29_30_31_32_33.later hb34
          have sl32_33_34 := sl32_33.later hb34
          refine hK.out _ _ ?_ (fun _ => ?_)
          · exact B34
          clear hK K
          refine take_at 39 (some 121) (.bool true) rfl rfl (by kernel_rfl) (by kernel_rfl) (by kernel_rfl) (fun _ _ _ h => h) (by rfl) (fun W hSw => by go_simp) B34 ?_
          simp only [Act.put, List.setIfInBounds_toArray, List.set_cons_zero, List.set_cons_succ]
          refine take_at 40 (some 122) (.bool true) rfl rfl (by kernel_rfl) (by kernel_rfl) (by kernel_rfl) (fun _ _ _ h => h) (by rfl) (fun W hSw => by go_simp) B34 ?_
          simp only [Act.put, List.setIfInBounds_toArray, List.set_cons_zero, List.set_cons_succ]
          refine take_at 41 (some 6) (.bool true) rfl rfl (by kernel_rfl) (by kernel_rfl) (by kernel_rfl) (fun _ _ _ h => h) (by rfl) (fun W hSw => by go_simp) B34 ?_
          simp only [Act.put, List.setIfInBounds_toArray, List.set_cons_zero, List.set_cons_succ]
          refine wpAnyH_done (by kernel_rfl) ?_ _
          refine NoPanic.normal ?_
          go_wp2
          go_ret
          exact ⟨rfl, Below.chain hb B34⟩
      · have hsx : sv = x := by
          rcases HSV.out with h | h
          · exact absurd h hov
          · exact h
        rw [hsx, IX.out.1] at hov
        rw [hsx, IX.out.1, IX.out.2] at h7
        obtain rfl : o = false := by simpa using hov
        go_upto_region 8 with fail
        generalize wc = w1 at *
        have m0 := hx.at0
        have m1 := hx.at1
        have m2 := hy.at0
        have m3 := hy.at1
        have m4 := hz.at0
        have m5 := hz.at1
        have m6 := h7.at0
        have m7 := h7.at1
        refine wp_region_noPanic ?_
        refine wp_region_held_drew (S := fun W => Below w1.heap.size w1 W) (by kernel_rfl) ?_ (fun _ => ?_)
        · exact (Below.refl _ _).drew
        have B2 : Below w1.heap.size w1 w1.drew := (Below.refl _ _).drew
        generalize w1.drew = w2 at *
        refine take_at 0 (some 82) (.pointer (some ⟨b7, 0, none⟩)) rfl rfl (by kernel_rfl) (by kernel_rfl) (by kernel_rfl) (fun _ _ _ h => h) (by rfl) (fun W hSw => by go_simp) B2 ?_
        simp only [Act.put, List.setIfInBounds_toArray, List.set_cons_zero, List.set_cons_succ]
        refine take_at 1 (some 83) (.bool false) rfl rfl (by kernel_rfl) (by kernel_rfl) (by kernel_rfl) (fun _ _ _ h => h) (by rfl) (fun W hSw => by go_simp) B2 ?_
        simp only [Act.put, List.setIfInBounds_toArray, List.set_cons_zero, List.set_cons_succ]
        refine take_at 2 (some 84) (.bool false) rfl rfl (by kernel_rfl) (by kernel_rfl) (by kernel_rfl) (fun _ _ _ h => h) (by rfl) (fun W hSw => by go_simp) B2 ?_
        simp only [Act.put, List.setIfInBounds_toArray, List.set_cons_zero, List.set_cons_succ]
        refine take_at 3 (some 85) (.agg #[.bool false, .int .i64 n]) rfl rfl (by kernel_rfl) (by kernel_rfl) (by kernel_rfl) (fun _ _ _ h => h) (by rfl) (fun W hSw => by go_simp) B2 ?_
        simp only [Act.put, List.setIfInBounds_toArray, List.set_cons_zero, List.set_cons_succ]
        refine take_at 4 (some 86) (.agg #[.bool false, .int .i64 n]) rfl rfl (by kernel_rfl) (by kernel_rfl) (by kernel_rfl) (fun _ _ _ h => h) (by rfl) (fun W hSw => by go_simp) B2 ?_
        simp only [Act.put, List.setIfInBounds_toArray, List.set_cons_zero, List.set_cons_succ]
        refine take_at 5 (some 87) (.bool true) rfl rfl (by kernel_rfl) (by kernel_rfl) (by kernel_rfl) (fun _ _ _ h => h) (by rfl) (fun W hSw => by go_simp) B2 ?_
        simp only [Act.put, List.setIfInBounds_toArray, List.set_cons_zero, List.set_cons_succ]
        refine take_at 6 (some 88) (.bool true) rfl rfl (by kernel_rfl) (by kernel_rfl) (by kernel_rfl) (fun _ _ _ h => h) (by rfl) (fun W hSw => by go_simp) B2 ?_
        simp only [Act.put, List.setIfInBounds_toArray, List.set_cons_zero, List.set_cons_succ]
        refine take_at 7 (some 89) (.bool true) rfl rfl (by kernel_rfl) (by kernel_rfl) (by kernel_rfl) (fun _ _ _ h => h) (by rfl) (fun W hSw => by go_simp) B2 ?_
        simp only [Act.put, List.setIfInBounds_toArray, List.set_cons_zero, List.set_cons_succ]
        refine take_at 8 (some 90) (.agg #[.bool false, .int .i64 n]) rfl rfl (by kernel_rfl) (by kernel_rfl) (by kernel_rfl) (fun _ _ _ h => h) (by rfl) (fun W hSw => by go_simp) B2 ?_
        simp only [Act.put, List.setIfInBounds_toArray, List.set_cons_zero, List.set_cons_succ]
        refine take_at 10 (some 92) (.agg #[.bool p, .int .i64 m]) rfl rfl (by kernel_rfl) (by kernel_rfl) (by kernel_rfl) (fun _ _ _ h => h) (by rfl) (fun W hSw => by go_simp) B2 ?_
        simp only [Act.put, List.setIfInBounds_toArray, List.set_cons_zero, List.set_cons_succ]
        refine take_at 12 (some 94) (.agg #[.bool false, .int .i64 n]) rfl rfl (by kernel_rfl) (by kernel_rfl) (by kernel_rfl) (fun _ _ _ h => h) (by rfl) (fun W hSw => by go_simp) B2 ?_
        simp only [Act.put, List.setIfInBounds_toArray, List.set_cons_zero, List.set_cons_succ]
        refine take_at 13 (some 95) (.agg #[.bool p, .int .i64 m]) rfl rfl (by kernel_rfl) (by kernel_rfl) (by kernel_rfl) (fun _ _ _ h => h) (by rfl) (fun W hSw => by go_simp) B2 ?_
        simp only [Act.put, List.setIfInBounds_toArray, List.set_cons_zero, List.set_cons_succ]
        refine wpAnyH_ready (rs := [9]) (by kernel_rfl) (by simp) ?_
        refine AllReadyH.cons rfl (fun K hK => ?_) AllReadyH.nil
        go_simp
        refine (hNegA _).mono ?_
        rintro e w11 ⟨rfl, hb11⟩
        have B11 := Below.chain B2 hb11
        refine hK.out _ _ ?_ (fun _ => ?_)
        · exact B11
        clear hK K
        refine wpAnyH_ready (rs := [11]) (by kernel_rfl) (by simp) ?_
        refine AllReadyH.cons rfl (fun K hK => ?_) AllReadyH.nil
        go_simp
        refine (hMulN _).mono ?_
        rintro e w12 ⟨rfl, hb12⟩
        have B12 := Below.chain B11 hb12
        refine hK.out _ _ ?_ (fun _ => ?_)
        · exact B12
        clear hK K
        refine wpAnyH_ready (rs := [14]) (by kernel_rfl) (by simp) ?_
        refine AllReadyH.cons rfl (fun K hK => ?_) AllReadyH.nil
        go_simp
        refine (hMul _).mono ?_
        rintro e w13 ⟨rfl, hb13⟩
        have B13 := Below.chain B12 hb13
        refine hK.out _ _ ?_ (fun _ => ?_)
        · exact B13
        clear hK K
        refine wpAnyH_ready (rs := [15]) (by kernel_rfl) (by simp) ?_
        refine AllReadyH.cons rfl (fun K hK => ?_) AllReadyH.nil
        go_simp
        refine (hNegM _).mono ?_
        rintro e w14 ⟨rfl, hb14⟩
        have B14 := Below.chain B13 hb14
        refine hK.out _ _ ?_ (fun _ => ?_)
        · exact B14
        clear hK K
        refine take_at 16 (some 98) (.bool true) rfl rfl (by kernel_rfl) (by kernel_rfl) (by kernel_rfl) (fun _ _ _ h => h) (by rfl) (fun W hSw => by go_simp) B14 ?_
        simp only [Act.put, List.setIfInBounds_toArray, List.set_cons_zero, List.set_cons_succ]
        refine take_at 17 (some 99) (.bool true) rfl rfl (by kernel_rfl) (by kernel_rfl) (by kernel_rfl) (fun _ _ _ h => h) (by rfl) (fun W hSw => by go_simp) B14 ?_
        simp only [Act.put, List.setIfInBounds_toArray, List.set_cons_zero, List.set_cons_succ]
        refine take_at 18 (some 100) (.bool true) rfl rfl (by kernel_rfl) (by kernel_rfl) (by kernel_rfl) (fun _ _ _ h => h) (by rfl) (fun W hSw => by go_simp) B14 ?_
        simp only [Act.put, List.setIfInBounds_toArray, List.set_cons_zero, List.set_cons_succ]
        refine take_at 19 (some 101) (.agg #[.bool false, .int .i64 n]) rfl rfl (by kernel_rfl) (by kernel_rfl) (by kernel_rfl) (fun _ _ _ h => h) (by rfl) (fun W hSw => by go_simp) B14 ?_
        simp only [Act.put, List.setIfInBounds_toArray, List.set_cons_zero, List.set_cons_succ]
        refine take_at 20 (some 102) (.agg #[.bool p, .int .i64 m]) rfl rfl (by kernel_rfl) (by kernel_rfl) (by kernel_rfl) (fun _ _ _ h => h) (by rfl) (fun W hSw => by go_simp) B14 ?_
        simp only [Act.put, List.setIfInBounds_toArray, List.set_cons_zero, List.set_cons_succ]
        refine take_at 21 (some 103) (.agg #[.bool q, .int .i64 k]) rfl rfl (by kernel_rfl) (by kernel_rfl) (by kernel_rfl) (fun _ _ _ h => h) (by rfl) (fun W hSw => by go_simp) B14 ?_
        simp only [Act.put, List.setIfInBounds_toArray, List.set_cons_zero, List.set_cons_succ]
        refine take_at 24 (some 106) (.agg #[.bool q, .int .i64 k]) rfl rfl (by kernel_rfl) (by kernel_rfl) (by kernel_rfl) (fun _ _ _ h => h) (by rfl) (fun W hSw => by go_simp) B14 ?_
        simp only [Act.put, List.setIfInBounds_toArray, List.set_cons_zero, List.set_cons_succ]
        refine take_at 25 (some 107) (.agg #[.bool false, .int .i64 n]) rfl rfl (by kernel_rfl) (by kernel_rfl) (by kernel_rfl) (fun _ _ _ h => h) (by rfl) (fun W hSw => by go_simp) B14 ?_
        simp only [Act.put, List.setIfInBounds_toArray, List.set_cons_zero, List.set_cons_succ]
        refine take_at 26 (some 108) (.agg #[.bool p, .int .i64 m]) rfl rfl (by kernel_rfl) (by kernel_rfl) (by kernel_rfl) (fun _ _ _ h => h) (by rfl) (fun W hSw => by go_simp) B14 ?_
        simp only [Act.put, List.setIfInBounds_toArray, List.set_cons_zero, List.set_cons_succ]
        refine wpAnyH_ready (rs := [22, 27]) (by kernel_rfl) (by simp) ?_
        refine AllReadyH.cons rfl (fun K hK => ?_) (AllReadyH.cons rfl (fun K hK => ?_) AllReadyH.nil)
        · go_simp
          have sl15 := Ns.three w14 (false) (p) (q) (n) (m) (k)
          have E15 := bal (Below.refl _ w14) (.cells #[.bool false, .int .i64 n, .bool p, .int .i64 m, .bool q, .int .i64 k] 23)
          have B15 := Below.chain B14 E15
          refine hK.out _ _ ?_ (fun _ => ?_)
          · exact B15
          clear hK K
          generalize w14.alloc (.cells #[.bool false, .int .i64 n, .bool p, .int .i64 m, .bool q, .int .i64 k] 23) = w15 at *
          refine wpAnyH_ready (rs := [23, 27]) (by kernel_rfl) (by simp) ?_
          refine AllReadyH.cons rfl (fun K hK => ?_) (AllReadyH.cons rfl (fun K hK => ?_) AllReadyH.nil)
          · go_simp
            refine (hS3 _ _ sl15).mono ?_
            rintro e w16 ⟨rfl, hb16⟩
            have B16 := Below.chain B15 hb16
            have sl15_16 := sl15.later hb16
            refine hK.out _ _ ?_ (fun _ => ?_)
            · exact B16
            clear hK K
            refine wpAnyH_ready (rs := [27]) (by kernel_rfl) (by simp) ?_
            refine AllReadyH.cons rfl (fun K hK => ?_) AllReadyH.nil
            go_simp
            have sl17 := Ns.three w16 (q) (false) (p) (k) (n) (m)
            have E17 := bal (Below.refl _ w16) (.cells #[.bool q, .int .i64 k, .bool false, .int .i64 n, .bool p, .int .i64 m] 23)
            have B17 := Below.chain B16 E17
            have sl15_16_17 := sl15_16.later E17
            refine hK.out _ _ ?_ (fun _ => ?_)
            · exact B17
            clear hK K
            generalize w16.alloc (.cells #[.bool q, .int .i64 k, .bool false, .int .i64 n, .bool p, .int .i64 m] 23) = w17 at *
            refine wpAnyH_ready (rs := [28]) (by kernel_rfl) (by simp) ?_
            refine AllReadyH.cons rfl (fun K hK => ?_) AllReadyH.nil
            go_simp
            refine (hS3t _ _ sl17).mono ?_
            rintro e w18 ⟨rfl, hb18⟩
            have B18 := Below.chain B17 hb18
            have sl15_16_17_18 := sl15_16_17.later hb18
            have sl17_18 := sl17.later hb18
            refine hK.out _ _ ?_ (fun _ => ?_)
            · exact B18
            clear hK K
            refine take_at 29 (some 111) (.bool true) rfl rfl (by kernel_rfl) (by kernel_rfl) (by kernel_rfl) (fun _ _ _ h => h) (by rfl) (fun W hSw => by go_simp) B18 ?_
            simp only [Act.put, List.setIfInBounds_toArray, List.set_cons_zero, List.set_cons_succ]
            refine take_at 30 (some 112) (.bool true) rfl rfl (by kernel_rfl) (by kernel_rfl) (by kernel_rfl) (fun _ _ _ h => h) (by rfl) (fun W hSw => by go_simp) B18 ?_
            simp only [Act.put, List.setIfInBounds_toArray, List.set_cons_zero, List.set_cons_succ]
            refine take_at 31 (some 113) (.bool true) rfl rfl (by kernel_rfl) (by kernel_rfl) (by kernel_rfl) (fun _ _ _ h => h) (by rfl) (fun W hSw => by go_simp) B18 ?_
            simp only [Act.put, List.setIfInBounds_toArray, List.set_cons_zero, List.set_cons_succ]
            refine take_at 32 (some 114) (.agg #[.bool false, .int .i64 n]) rfl rfl (by kernel_rfl) (by kernel_rfl) (by kernel_rfl) (fun _ _ _ h => h) (by rfl) (fun W hSw => by go_simp) B18 ?_
            simp only [Act.put, List.setIfInBounds_toArray, List.set_cons_zero, List.set_cons_succ]
            refine take_at 33 (some 115) (.agg #[.bool p, .int .i64 m]) rfl rfl (by kernel_rfl) (by kernel_rfl) (by kernel_rfl) (fun _ _ _ h => h) (by rfl) (fun W hSw => by go_simp) B18 ?_
            simp only [Act.put, List.setIfInBounds_toArray, List.set_cons_zero, List.set_cons_succ]
            refine take_at 36 (some 118) (.agg #[.bool false, .int .i64 n]) rfl rfl (by kernel_rfl) (by kernel_rfl) (by kernel_rfl) (fun _ _ _ h => h) (by rfl) (fun W hSw => by go_simp) B18 ?_
            simp only [Act.put, List.setIfInBounds_toArray, List.set_cons_zero, List.set_cons_succ]
            refine take_at 37 (some 119) (.agg #[.bool p, .int .i64 m]) rfl rfl (by kernel_rfl) (by kernel_rfl) (by kernel_rfl) (fun _ _ _ h => h) (by rfl) (fun W hSw => by go_simp) B18 ?_
            simp only [Act.put, List.setIfInBounds_toArray, List.set_cons_zero, List.set_cons_succ]
            refine wpAnyH_ready (rs := [34]) (by kernel_rfl) (by simp) ?_
            refine AllReadyH.cons rfl (fun K hK => ?_) AllReadyH.nil
            go_simp
            have sl19 := Ns.two w18 (false) (p) (n) (m)
            have E19 := bal (Below.refl _ w18) (.cells #[.bool false, .int .i64 n, .bool p, .int .i64 m] 23)
            have B19 := Below.chain B18 E19
            have sl15_16_17_18_19 := sl15_16_17_18.later E19
            have sl17_18_19 := sl17_18.later E19
            refine hK.out _ _ ?_ (fun _ => ?_)
            · exact B19
            clear hK K
            generalize w18.alloc (.cells #[.bool false, .int .i64 n, .bool p, .int .i64 m] 23) = w19 at *
            refine wpAnyH_ready (rs := [35]) (by kernel_rfl) (by simp) ?_
            refine AllReadyH.cons rfl (fun K hK => ?_) AllReadyH.nil
            go_simp
            refine (hS2 _ _ sl19).mono ?_
            rintro e w20 ⟨rfl, hb20⟩
            have B20 := Below.chain B19 hb20
            have sl15_16_17_18_19_20 := sl15_16_17_18_19.later hb20
            have sl17_18_19_20 := sl17_18_19.later hb20
            have sl19_20 := sl19.later hb20
            refine hK.out _ _ ?_ (fun _ => ?_)
            · exact B20
            clear hK K
            refine wpAnyH_ready (rs := [38]) (by kernel_rfl) (by simp) ?_
            refine AllReadyH.cons rfl (fun K hK => ?_) AllReadyH.nil
            go_simp
            refine (hAdd _).mono ?_
            rintro e w21 ⟨rfl, hb21⟩
            have B21 := Below.chain B20 hb21
            have sl15_16_17_18_19_20_21 := sl15_16_17_18_19_20.later hb21
            have sl17_18_19_20_21 := sl17_18_19_20.later hb21
            have sl19_20_21 := sl19_20.later hb21
            refine hK.out _ _ ?_ (fun _ => ?_)
            · exact B21
            clear hK K
            refine take_at 39 (some 121) (.bool true) rfl rfl (by kernel_rfl) (by kernel_rfl) (by kernel_rfl) (fun _ _ _ h => h) (by rfl) (fun W hSw => by go_simp) B21 ?_
            simp only [Act.put, List.setIfInBounds_toArray, List.set_cons_zero, List.set_cons_succ]
            refine take_at 40 (some 122) (.bool true) rfl rfl (by kernel_rfl) (by kernel_rfl) (by kernel_rfl) (fun _ _ _ h => h) (by rfl) (fun W hSw => by go_simp) B21 ?_
            simp only [Act.put, List.setIfInBounds_toArray, List.set_cons_zero, List.set_cons_succ]
            refine take_at 41 (some 6) (.bool true) rfl rfl (by kernel_rfl) (by kernel_rfl) (by kernel_rfl) (fun _ _ _ h => h) (by rfl) (fun W hSw => by go_simp) B21 ?_
            simp only [Act.put, List.setIfInBounds_toArray, List.set_cons_zero, List.set_cons_succ]
            refine wpAnyH_done (by kernel_rfl) ?_ _
            refine NoPanic.normal ?_
            go_wp2
            go_ret
            exact ⟨rfl, Below.chain hb B21⟩
          · go_simp
            have sl22 := Ns.three w15 (q) (false) (p) (k) (n) (m)
            have E22 := bal (Below.refl _ w15) (.cells #[.bool q, .int .i64 k, .bool false, .int .i64 n, .bool p, .int .i64 m] 23)
            have B22 := Below.chain B15 E22
            have sl15_22 := sl15.later E22
            refine hK.out _ _ ?_ (fun _ => ?_)
            · exact B22
            clear hK K
            generalize w15.alloc (.cells #[.bool q, .int .i64 k, .bool false, .int .i64 n, .bool p, .int .i64 m] 23) = w22 at *
            refine wpAnyH_ready (rs := [23]) (by kernel_rfl) (by simp) ?_
            refine AllReadyH.cons rfl (fun K hK => ?_) AllReadyH.nil
            go_simp
            refine (hS3 _ _ sl15_22).mono ?_
            rintro e w23 ⟨rfl, hb23⟩
            have B23 := Below.chain B22 hb23
            have sl15_22_23 := sl15_22.later hb23
            have sl22_23 := sl22.later hb23
            refine hK.out _ _ ?_ (fun _ => ?_)
            · exact B23
            clear hK K
            refine wpAnyH_ready (rs := [28]) (by kernel_rfl) (by simp) ?_
            refine AllReadyH.cons rfl (fun K hK => ?_) AllReadyH.nil
            go_simp
            refine (hS3t _ _ sl22_23).mono ?_
            rintro e w24 ⟨rfl, hb24⟩
            have B24 := Below.chain B23 hb24
            have sl15_22_23_24 := sl15_22_23.later hb24
            have sl22_23_24 := sl22_23.later hb24
            refine hK.out _ _ ?_ (fun _ => ?_)
            · exact B24
            clear hK K
            refine take_at 29 (some 111) (.bool true) rfl rfl (by kernel_rfl) (by kernel_rfl) (by kernel_rfl) (fun _ _ _ h => h) (by rfl) (fun W hSw => by go_simp) B24 ?_
            simp only [Act.put, List.setIfInBounds_toArray, List.set_cons_zero, List.set_cons_succ]
            refine take_at 30 (some 112) (.bool true) rfl rfl (by kernel_rfl) (by kernel_rfl) (by kernel_rfl) (fun _ _ _ h => h) (by rfl) (fun W hSw => by go_simp) B24 ?_
            simp only [Act.put, List.setIfInBounds_toArray, List.set_cons_zero, List.set_cons_succ]
            refine take_at 31 (some 113) (.bool true) rfl rfl (by kernel_rfl) (by kernel_rfl) (by kernel_rfl) (fun _ _ _ h => h) (by rfl) (fun W hSw => by go_simp) B24 ?_
            simp only [Act.put, List.setIfInBounds_toArray, List.set_cons_zero, List.set_cons_succ]
            refine take_at 32 (some 114) (.agg #[.bool false, .int .i64 n]) rfl rfl (by kernel_rfl) (by kernel_rfl) (by kernel_rfl) (fun _ _ _ h => h) (by rfl) (fun W hSw => by go_simp) B24 ?_
            simp only [Act.put, List.setIfInBounds_toArray, List.set_cons_zero, List.set_cons_succ]
            refine take_at 33 (some 115) (.agg #[.bool p, .int .i64 m]) rfl rfl (by kernel_rfl) (by kernel_rfl) (by kernel_rfl) (fun _ _ _ h => h) (by rfl) (fun W hSw => by go_simp) B24 ?_
            simp only [Act.put, List.setIfInBounds_toArray, List.set_cons_zero, List.set_cons_succ]
            refine take_at 36 (some 118) (.agg #[.bool false, .int .i64 n]) rfl rfl (by kernel_rfl) (by kernel_rfl) (by kernel_rfl) (fun _ _ _ h => h) (by rfl) (fun W hSw => by go_simp) B24 ?_
            simp only [Act.put, List.setIfInBounds_toArray, List.set_cons_zero, List.set_cons_succ]
            refine take_at 37 (some 119) (.agg #[.bool p, .int .i64 m]) rfl rfl (by kernel_rfl) (by kernel_rfl) (by kernel_rfl) (fun _ _ _ h => h) (by rfl) (fun W hSw => by go_simp) B24 ?_
            simp only [Act.put, List.setIfInBounds_toArray, List.set_cons_zero, List.set_cons_succ]
            refine wpAnyH_ready (rs := [34]) (by kernel_rfl) (by simp) ?_
            refine AllReadyH.cons rfl (fun K hK => ?_) AllReadyH.nil
            go_simp
            have sl25 := Ns.two w24 (false) (p) (n) (m)
            have E25 := bal (Below.refl _ w24) (.cells #[.bool false, .int .i64 n, .bool p, .int .i64 m] 23)
            have B25 := Below.chain B24 E25
            have sl15_22_23_24_25 := sl15_22_23_24.later E25
            have sl22_23_24_25 := sl22_23_24.later E25
            refine hK.out _ _ ?_ (fun _ => ?_)
            · exact B25
            clear hK K
            generalize w24.alloc (.cells #[.bool false, .int .i64 n, .bool p, .int .i64 m] 23) = w25 at *
            refine wpAnyH_ready (rs := [35]) (by kernel_rfl) (by simp) ?_
            refine AllReadyH.cons rfl (fun K hK => ?_) AllReadyH.nil
            go_simp
            refine (hS2 _ _ sl25).mono ?_
            rintro e w26 ⟨rfl, hb26⟩
            have B26 := Below.chain B25 hb26
            have sl15_22_23_24_25_26 := sl15_22_23_24_25.later hb26
            have sl22_23_24_25_26 := sl22_23_24_25.later hb26
            have sl25_26 := sl25.later hb26
            refine hK.out _ _ ?_ (fun _ => ?_)
            · exact B26
            clear hK K
            refine wpAnyH_ready (rs := [38]) (by kernel_rfl) (by simp) ?_
            refine AllReadyH.cons rfl (fun K hK => ?_) AllReadyH.nil
            go_simp
            refine (hAdd _).mono ?_
            rintro e w27 ⟨rfl, hb27⟩
            have B27 := Below.chain B26 hb27
            have sl15_22_23_24_25_26_27 := sl15_22_23_24_25_26.later hb27
            have sl22_23_24_25_26_27 := sl22_23_24_25_26.later hb27
            have sl25_26_27 := sl25_26.later hb27
            refine hK.out _ _ ?_ (fun _ => ?_)
            · exact B27
            clear hK K
            refine take_at 39 (some 121) (.bool true) rfl rfl (by kernel_rfl) (by kernel_rfl) (by kernel_rfl) (fun _ _ _ h => h) (by rfl) (fun W hSw => by go_simp) B27 ?_
            simp only [Act.put, List.setIfInBounds_toArray, List.set_cons_zero, List.set_cons_succ]
            refine take_at 40 (some 122) (.bool true) rfl rfl (by kernel_rfl) (by kernel_rfl) (by kernel_rfl) (fun _ _ _ h => h) (by rfl) (fun W hSw => by go_simp) B27 ?_
            simp only [Act.put, List.setIfInBounds_toArray, List.set_cons_zero, List.set_cons_succ]
            refine take_at 41 (some 6) (.bool true) rfl rfl (by kernel_rfl) (by kernel_rfl) (by kernel_rfl) (fun _ _ _ h => h) (by rfl) (fun W hSw => by go_simp) B27 ?_
            simp only [Act.put, List.setIfInBounds_toArray, List.set_cons_zero, List.set_cons_succ]
            refine wpAnyH_done (by kernel_rfl) ?_ _
            refine NoPanic.normal ?_
            go_wp2
            go_ret
            exact ⟨rfl, Below.chain hb B27⟩
        · go_simp
          have sl28 := Ns.three w14 (q) (false) (p) (k) (n) (m)
          have E28 := bal (Below.refl _ w14) (.cells #[.bool q, .int .i64 k, .bool false, .int .i64 n, .bool p, .int .i64 m] 23)
          have B28 := Below.chain B14 E28
          refine hK.out _ _ ?_ (fun _ => ?_)
          · exact B28
          clear hK K
          generalize w14.alloc (.cells #[.bool q, .int .i64 k, .bool false, .int .i64 n, .bool p, .int .i64 m] 23) = w28 at *
          refine wpAnyH_ready (rs := [22]) (by kernel_rfl) (by simp) ?_
          refine AllReadyH.cons rfl (fun K hK => ?_) AllReadyH.nil
          go_simp
          have sl29 := Ns.three w28 (false) (p) (q) (n) (m) (k)
          have E29 := bal (Below.refl _ w28) (.cells #[.bool false, .int .i64 n, .bool p, .int .i64 m, .bool q, .int .i64 k] 23)
          have B29 := Below.chain B28 E29
          have sl28_29 := sl28.later E29
          refine hK.out _ _ ?_ (fun _ => ?_)
          · exact B29
          clear hK K
          generalize w28.alloc (.cells #[.bool false, .int .i64 n, .bool p, .int .i64 m, .bool q, .int .i64 k] 23) = w29 at *
          refine wpAnyH_ready (rs := [23]) (by kernel_rfl) (by simp) ?_
          refine AllReadyH.cons rfl (fun K hK => ?_) AllReadyH.nil
          go_simp
          refine (hS3 _ _ sl29).mono ?_
          rintro e w30 ⟨rfl, hb30⟩
          have B30 := Below.chain B29 hb30
          have sl28_29_30 := sl28_29.later hb30
          have sl29_30 := sl29.later hb30
          refine hK.out _ _ ?_ (fun _ => ?_)
          · exact B30
          clear hK K
          refine wpAnyH_ready (rs := [28]) (by kernel_rfl) (by simp) ?_
          refine AllReadyH.cons rfl (fun K hK => ?_) AllReadyH.nil
          go_simp
          refine (hS3t _ _ sl28_29_30).mono ?_
          rintro e w31 ⟨rfl, hb31⟩
          have B31 := Below.chain B30 hb31
          have sl28_29_30_31 := sl28_29_30.later hb31
          have sl29_30_31 := sl29_30.later hb31
          refine hK.out _ _ ?_ (fun _ => ?_)
          · exact B31
          clear hK K
          refine take_at 29 (some 111) (.bool true) rfl rfl (by kernel_rfl) (by kernel_rfl) (by kernel_rfl) (fun _ _ _ h => h) (by rfl) (fun W hSw => by go_simp) B31 ?_
          simp only [Act.put, List.setIfInBounds_toArray, List.set_cons_zero, List.set_cons_succ]
          refine take_at 30 (some 112) (.bool true) rfl rfl (by kernel_rfl) (by kernel_rfl) (by kernel_rfl) (fun _ _ _ h => h) (by rfl) (fun W hSw => by go_simp) B31 ?_
          simp only [Act.put, List.setIfInBounds_toArray, List.set_cons_zero, List.set_cons_succ]
          refine take_at 31 (some 113) (.bool true) rfl rfl (by kernel_rfl) (by kernel_rfl) (by kernel_rfl) (fun _ _ _ h => h) (by rfl) (fun W hSw => by go_simp) B31 ?_
          simp only [Act.put, List.setIfInBounds_toArray, List.set_cons_zero, List.set_cons_succ]
          refine take_at 32 (some 114) (.agg #[.bool false, .int .i64 n]) rfl rfl (by kernel_rfl) (by kernel_rfl) (by kernel_rfl) (fun _ _ _ h => h) (by rfl) (fun W hSw => by go_simp) B31 ?_
          simp only [Act.put, List.setIfInBounds_toArray, List.set_cons_zero, List.set_cons_succ]
          refine take_at 33 (some 115) (.agg #[.bool p, .int .i64 m]) rfl rfl (by kernel_rfl) (by kernel_rfl) (by kernel_rfl) (fun _ _ _ h => h) (by rfl) (fun W hSw => by go_simp) B31 ?_
          simp only [Act.put, List.setIfInBounds_toArray, List.set_cons_zero, List.set_cons_succ]
          refine take_at 36 (some 118) (.agg #[.bool false, .int .i64 n]) rfl rfl (by kernel_rfl) (by kernel_rfl) (by kernel_rfl) (fun _ _ _ h => h) (by rfl) (fun W hSw => by go_simp) B31 ?_
          simp only [Act.put, List.setIfInBounds_toArray, List.set_cons_zero, List.set_cons_succ]
          refine take_at 37 (some 119) (.agg #[.bool p, .int .i64 m]) rfl rfl (by kernel_rfl) (by kernel_rfl) (by kernel_rfl) (fun _ _ _ h => h) (by rfl) (fun W hSw => by go_simp) B31 ?_
          simp only [Act.put, List.setIfInBounds_toArray, List.set_cons_zero, List.set_cons_succ]
          refine wpAnyH_ready (rs := [34]) (by kernel_rfl) (by simp) ?_
          refine AllReadyH.cons rfl (fun K hK => ?_) AllReadyH.nil
          go_simp
          have sl32 := Ns.two w31 (false) (p) (n) (m)
          have E32 := bal (Below.refl _ w31) (.cells #[.bool false, .int .i64 n, .bool p, .int .i64 m] 23)
          have B32 := Below.chain B31 E32
          have sl28_29_30_31_32 := sl28_29_30_31.later E32
          have sl29_30_31_32 := sl29_30_31.later E32
          refine hK.out _ _ ?_ (fun _ => ?_)
          · exact B32
          clear hK K
          generalize w31.alloc (.cells #[.bool false, .int .i64 n, .bool p, .int .i64 m] 23) = w32 at *
          refine wpAnyH_ready (rs := [35]) (by kernel_rfl) (by simp) ?_
          refine AllReadyH.cons rfl (fun K hK => ?_) AllReadyH.nil
          go_simp
          refine (hS2 _ _ sl32).mono ?_
          rintro e w33 ⟨rfl, hb33⟩
          have B33 := Below.chain B32 hb33
          have sl28_29_30_31_32_33 := sl28_29_30_31_32.later hb33
          have sl29_30_31_32_33 := sl29_30_31_32.later hb33
          have sl32_33 := sl32.later hb33
          refine hK.out _ _ ?_ (fun _ => ?_)
          · exact B33
          clear hK K
          refine wpAnyH_ready (rs := [38]) (by kernel_rfl) (by simp) ?_
          refine AllReadyH.cons rfl (fun K hK => ?_) AllReadyH.nil
          go_simp
          refine (hAdd _).mono ?_
          rintro e w34 ⟨rfl, hb34⟩
          have B34 := Below.chain B33 hb34
          have sl28_29_30_31_32_33_34 := sl28_29_30_31_32_33.later hb34
          have sl29_30_31_32_33_34 := sl29_30_31_32_33.later hb34
          have sl32_33_34 := sl32_33.later hb34
          refine hK.out _ _ ?_ (fun _ => ?_)
          · exact B34
          clear hK K
          refine take_at 39 (some 121) (.bool true) rfl rfl (by kernel_rfl) (by kernel_rfl) (by kernel_rfl) (fun _ _ _ h => h) (by rfl) (fun W hSw => by go_simp) B34 ?_
          simp only [Act.put, List.setIfInBounds_toArray, List.set_cons_zero, List.set_cons_succ]
          refine take_at 40 (some 122) (.bool true) rfl rfl (by kernel_rfl) (by kernel_rfl) (by kernel_rfl) (fun _ _ _ h => h) (by rfl) (fun W hSw => by go_simp) B34 ?_
          simp only [Act.put, List.setIfInBounds_toArray, List.set_cons_zero, List.set_cons_succ]
          refine take_at 41 (some 6) (.bool true) rfl rfl (by kernel_rfl) (by kernel_rfl) (by kernel_rfl) (fun _ _ _ h => h) (by rfl) (fun W hSw => by go_simp) B34 ?_
          simp only [Act.put, List.setIfInBounds_toArray, List.set_cons_zero, List.set_cons_succ]
          refine wpAnyH_done (by kernel_rfl) ?_ _
          refine NoPanic.normal ?_
          go_wp2
          go_ret
          exact ⟨rfl, Below.chain hb B34⟩
end Go.Proofs.YtibdlcegmepbcaaDoor
