/- The document's own Over, of a mean and of a difference. -/
import Derived.Test.YtchopogodfghoaaRInc
import Derived.Test.YtchopogodfghoaaSums
namespace Go.Proofs.Ytchopogodfghoaa
open Go.RowKit

theorem quo_vals (a c : Option Int) (w : World) (ha : V a) (hc : V c) : Calls Try.prog 43 #[.agg #[.bool (ov a), .int .i64 (nn a)], .agg #[.bool (ov c), .int .i64 (nn c)]] w fun e w' => e = .returned (.agg #[.bool (ov (fDiv a c)), .int .i64 (nn (fDiv a c))]) ∧ Below w.heap.size w w' := by
  have h := rquo_any (ov a) (ov c) (nn a) (nn c) w (V.r64 ha) (V.r64 hc)
  rw [cnt_val ha, cnt_val hc] at h
  exact h
theorem OwnN.new {w : World} {base : Nat} {v : Value} {l : List (Bool × Int)} (h : OwnN w base v l) (b off n c : Nat) (e : v = .slice (some ⟨b, off, none⟩) n c) : base ≤ b := by
  rcases h.2 with ⟨rfl, _⟩ | ⟨g, cap, cur, rfl, hb, _⟩
  · cases e
  · injection e with e1
    injection e1 with e1
    injection e1 with e1
    omega
theorem set_keep (w : World) (a b j : Nat) (u v : Value) (h : b ≠ a) : ((w.setCell ⟨a, 0, none⟩ u).setCell ⟨a, 1, none⟩ v).cell? ⟨b, j, none⟩ = w.cell? ⟨b, j, none⟩ := by
  rw [set_other (fun e => h (by injection e with e; exact e.symm)), set_other (fun e => h (by injection e with e; exact e.symm))]
set_option maxHeartbeats 8000000 in
theorem over_avg (ao : Option Addr) (n cap : Nat) (l : List Smp) (w : World) (hn : n ≤ 100) (hs : Ms w ao n l) (hl : ∀ s ∈ l, R64 s.2.2) :
    Calls Try.prog 31 #[.slice ao n cap, .string ⟨#[97, 118, 103]⟩, .int .i64 1] w fun e w' => e = .returned (if n = 0 then .tuple #[.agg #[.bool false, .int .i64 0], .bool false] else .tuple #[.agg #[.bool (ov (avgP l)), .int .i64 (nn (avgP l))], .bool true]) ∧ Below w.heap.size w w' := by
  have hb0 := bal (Below.refl _ w) (.cells #[.bool false, .int .i64 0] 31)
  have hx0 := Box.new w false 0
  have hlen := hs.1
  have hlm : (l.map nv).length = n := by rw [List.length_map]; exact hlen
  have hrv : ∀ x ∈ l.map nv, R64 x.2 := fun x hx => by
    obtain ⟨s, hs, rfl⟩ := List.mem_map.1 hx
    exact nv_r64 s (hl s hs)
  by_cases h0 : n = 0
  · rw [if_pos h0]
    have d0 : ((n : Int) == 0) = true := by rw [h0]; rfl
    clear h0
    go_enter Try.func31, Try.ntmps31
    go_wp2_with fail
    refine (values_any ao n cap l _ (by omega) (hs.later hb0) hl).mono ?_
    rintro e w1 ⟨v1, rfl, ho1, hb1⟩
    obtain ⟨vo, vc, rfl, hns⟩ := ho1.slice
    rw [hlm] at hns ⊢
    have hx1 := hx0.later hb1
    have hb1c := Below.chain hb0 hb1
    have hs1 := hs.later hb1c
    clear hs1 hns hs hl hrv hlm
    obtain ⟨c0, c1, g0, g1⟩ := id hx1
    obtain ⟨p0, p1, _, _⟩ := hx1.put (p := false) (m := 0)
    go_wp2
    exact bodyPost_ret (v := .tuple #[.agg #[.bool false, .int .i64 0], .bool false]) (by simp [results, Try.results31, go_sem, p0, p1]) rfl ⟨rfl, put2 hb1c (Nat.le_refl _) _ _⟩
  · rw [if_neg h0]
    have d0 : ((n : Int) == 0) = false := by rw [beq_eq_false_iff_ne]; omega
    have HQ : Hid (avgP l = fDiv (fSum (cnts (l.map nv))) (fOf n)) := by show _ = _; unfold avgP; rw [nv_cnts l hl, hlen]
    go_enter Try.func31, Try.ntmps31
    go_wp2_with fail
    refine (values_any ao n cap l _ (by omega) (hs.later hb0) hl).mono ?_
    rintro e w1 ⟨v1, rfl, ho1, hb1⟩
    obtain ⟨vo, vc, rfl, hns⟩ := ho1.slice
    rw [hlm] at hns ⊢
    have hx1 := hx0.later hb1
    have hb1c := Below.chain hb0 hb1
    have hs1 := hs.later hb1c
    go_wp2_with fail
    refine (inc_any ao n cap l _ hn hs1 hl).mono ?_
    rintro e w2 ⟨io, im, ic, rfl, hb2⟩
    have hx2 := (hx1.later hb2).later (bal (Below.refl _ _) (.cells #[.bool io, .int .i64 im] 31))
    have hn2 := (hns.laterS hb2).laterS (bal (Below.refl _ _) (.cells #[.bool io, .int .i64 im] 31))
    have hb2c := bal (Below.chain hb1c hb2) (.cells #[.bool io, .int .i64 im] 31)
    have hsu := fun W hW => rsum_any vo n vc (l.map nv) W hn hW hrv
    have hwh := fun W => whole_any n W (by unfold R64; omega)
    have hqu := fun W => quo_vals (fSum (cnts (l.map nv))) (fOf n) W (V.sum _) (V.norm _)
    have HQ1 : Hid (ov (avgP l) = ov (fDiv (fSum (cnts (l.map nv))) (fOf n)) ∧ nn (avgP l) = nn (fDiv (fSum (cnts (l.map nv))) (fOf n))) := ⟨by rw [HQ.out], by rw [HQ.out]⟩
    generalize ov (fDiv (fSum (cnts (l.map nv))) (fOf n)) = qo at *
    generalize nn (fDiv (fSum (cnts (l.map nv))) (fOf n)) = qn at *
    generalize ov (fSum (cnts (l.map nv))) = so at *
    generalize nn (fSum (cnts (l.map nv))) = sn at *
    generalize ov (fOf n) = fo at *
    generalize nn (fOf n) = fn at *
    clear hs hs1 hns HQ
    go_wp2_with fail
    refine (hsu _ hn2).mono ?_
    rintro e w3 ⟨rfl, hb3⟩
    go_wp2_with fail
    refine (hwh _).mono ?_
    rintro e w4 ⟨rfl, hb4⟩
    go_wp2_with fail
    refine (hqu _).mono ?_
    rintro e w5 ⟨rfl, hb5⟩
    have hx5 := ((hx2.later hb3).later hb4).later hb5
    obtain ⟨c0, c1, g0, g1⟩ := id hx5
    obtain ⟨p0, p1, _, _⟩ := hx5.put (p := qo) (m := qn)
    go_wp2
    exact bodyPost_ret (v := .tuple #[.agg #[.bool qo, .int .i64 qn], .bool true]) (by simp [results, Try.results31, go_sem, p0, p1]) rfl ⟨by rw [HQ1.out.1, HQ1.out.2], put2 (Below.chain (Below.chain (Below.chain hb2c hb3) hb4) hb5) (Nat.le_refl _) _ _⟩
set_option maxHeartbeats 8000000 in
theorem over_delta (ao : Option Addr) (n cap : Nat) (l : List Smp) (w : World) (hn : n ≤ 100) (hs : Ms w ao n l) (hl : ∀ s ∈ l, R64 s.2.2) :
    Calls Try.prog 31 #[.slice ao n cap, .string ⟨#[100, 101, 108, 116, 97]⟩, .int .i64 1] w fun e w' => e = .returned (if n < 2 then .tuple #[.agg #[.bool false, .int .i64 0], .bool false] else .tuple #[.agg #[.bool (ov (dltP l)), .int .i64 (nn (dltP l))], .bool true]) ∧ Below w.heap.size w w' := by
  have hb0 := bal (Below.refl _ w) (.cells #[.bool false, .int .i64 0] 31)
  have hx0 := Box.new w false 0
  have hlen := hs.1
  have hlm : (l.map nv).length = n := by rw [List.length_map]; exact hlen
  have hrv : ∀ x ∈ l.map nv, R64 x.2 := fun x hx => by
    obtain ⟨s, hs, rfl⟩ := List.mem_map.1 hx
    exact nv_r64 s (hl s hs)
  by_cases h0 : n < 2
  · rw [if_pos h0]
    have d0 : decide ((n : Int) < 2) = true := decide_eq_true (by omega)
    go_enter Try.func31, Try.ntmps31
    go_wp2_with fail
    refine (values_any ao n cap l _ (by omega) (hs.later hb0) hl).mono ?_
    rintro e w1 ⟨v1, rfl, ho1, hb1⟩
    obtain ⟨vo, vc, rfl, hns⟩ := ho1.slice
    rw [hlm] at hns ⊢
    have hx1 := hx0.later hb1
    have hb1c := Below.chain hb0 hb1
    have hs1 := hs.later hb1c
    obtain ⟨c0, c1, g0, g1⟩ := id hx1
    obtain ⟨p0, p1, _, _⟩ := hx1.put (p := false) (m := 0)
    go_wp2
    exact bodyPost_ret (v := .tuple #[.agg #[.bool false, .int .i64 0], .bool false]) (by simp [results, Try.results31, go_sem, p0, p1]) rfl ⟨rfl, put2 hb1c (Nat.le_refl _) _ _⟩
  · rw [if_neg h0]
    have d0 : decide ((n : Int) < 2) = false := decide_eq_false (by omega)
    obtain ⟨p, hp⟩ : ∃ p, n - 1 = p := ⟨_, rfl⟩
    have EP : Hid (IntKind.i64.wrap ((n : Int) - 1) = (p : Int)) := by show _ = _; rw [wI (by omega) (by omega)]; omega
    have hpn : p < n := by omega
    have hnp : 0 < n := by omega
    have g1 : (l.map nv).getD p (false, 0) = nv (lst l) := by
      unfold lst
      rw [hlen, hp, List.getD_eq_getElem?_getD, List.getD_eq_getElem?_getD, List.getElem?_map, List.getElem?_eq_getElem (by omega)]
      rfl
    have g0 : (l.map nv).getD 0 (false, 0) = nv (l.getD 0 s0) := by
      rw [List.getD_eq_getElem?_getD, List.getD_eq_getElem?_getD, List.getElem?_map, List.getElem?_eq_getElem (by omega)]
      rfl
    have hm1 := hl _ (lst_mem (l := l) (by intro e; rw [e] at hlen; simp at hlen; omega))
    have hm0 := hl _ (getD_memS (l := l) (j := 0) (by omega))
    have HQ : Hid (dltP l = fAdd (cnt (nv (lst l)).1 (nv (lst l)).2) (fNeg (cnt (nv (l.getD 0 s0)).1 (nv (l.getD 0 s0)).2))) := by
      show _ = fAdd (cnt (ov (cnt _ _)) (nn (cnt _ _))) (fNeg (cnt (ov (cnt _ _)) (nn (cnt _ _))))
      rw [cnt_val (V.cnt hm1.1 hm1.2), cnt_val (V.cnt hm0.1 hm0.2)]
      rfl
    have hsb := fun W => rsub_any (nv (lst l)).1 (nv (l.getD 0 s0)).1 (nv (lst l)).2 (nv (l.getD 0 s0)).2 W (nv_r64 _ hm1) (nv_r64 _ hm0)
    go_enter Try.func31, Try.ntmps31
    go_wp2_with fail
    refine (values_any ao n cap l _ (by omega) (hs.later hb0) hl).mono ?_
    rintro e w1 ⟨v1, rfl, ho1, hb1⟩
    obtain ⟨vo, vc, rfl, hns⟩ := ho1.slice
    rw [hlm] at hns ⊢
    have hx1 := hx0.later hb1
    have hb1c := Below.chain hb0 hb1
    have hs1 := hs.later hb1c
    go_wp2_with fail
    refine (inc_any ao n cap l _ hn hs1 hl).mono ?_
    rintro e w2 ⟨io, im, ic, rfl, hb2⟩
    have hx2 := (hx1.later hb2).later (bal (Below.refl _ _) (.cells #[.bool io, .int .i64 im] 31))
    have hn2 := (hns.laterS hb2).laterS (bal (Below.refl _ _) (.cells #[.bool io, .int .i64 im] 31))
    have hb2c := bal (Below.chain hb1c hb2) (.cells #[.bool io, .int .i64 im] 31)
    obtain ⟨vb, off, rfl, hcc⟩ := hn2.2 hnp
    have hvg := ho1.new vb off n vc (by rw [hlm])
    have hvb : vb ≠ w.heap.size := by have := hx0.lt; omega
    have k1 := hcc p hpn
    have k0 := hcc 0 hnp
    rw [g1] at k1
    rw [g0] at k0
    simp only [Nat.zero_mul, Nat.add_zero] at k0
    have HQ1 : Hid (ov (dltP l) = ov (fAdd (cnt (nv (lst l)).1 (nv (lst l)).2) (fNeg (cnt (nv (l.getD 0 s0)).1 (nv (l.getD 0 s0)).2))) ∧ nn (dltP l) = nn (fAdd (cnt (nv (lst l)).1 (nv (lst l)).2) (fNeg (cnt (nv (l.getD 0 s0)).1 (nv (l.getD 0 s0)).2)))) := ⟨by rw [HQ.out], by rw [HQ.out]⟩
    clear hs hs1 hns HQ hn2 hcc g1 g0 hm1 hm0
    generalize nv (lst l) = x at *
    generalize nv (l.getD 0 s0) = y at *
    obtain ⟨x1, x2⟩ := x
    obtain ⟨y1, y2⟩ := y
    dsimp only at *
    generalize hfo : ov (fAdd (cnt x1 x2) (fNeg (cnt y1 y2))) = fo at *
    generalize hfn : nn (fAdd (cnt x1 x2) (fNeg (cnt y1 y2))) = fn at *
    clear hfo hfn
    go_wp2_with fail
    generalize w2.alloc (.cells #[.bool io, .int .i64 im] 31) = w3 at *
    have HZ : Hid (∀ W, Below w3.drew.heap.size w3.drew W → W.cell? ⟨vb, off + p * 2, none⟩ = some (.bool x1) ∧ W.cell? ⟨vb, off + p * 2 + 1, none⟩ = some (.int .i64 x2) ∧ W.cell? ⟨vb, off, none⟩ = some (.bool y1) ∧ W.cell? ⟨vb, off + 1, none⟩ = some (.int .i64 y2)) := by
      intro W hW
      have hlt : vb < w3.drew.heap.size := World.block_lt_of_cell? w3 _ k0.1
      exact ⟨(hW.cell (p := ⟨vb, off + p * 2, none⟩) hlt).trans k1.1, (hW.cell (p := ⟨vb, off + p * 2 + 1, none⟩) hlt).trans k1.2, (hW.cell (p := ⟨vb, off, none⟩) hlt).trans k0.1, (hW.cell (p := ⟨vb, off + 1, none⟩) hlt).trans k0.2⟩
    obtain ⟨z0, z1, z2, z3⟩ := HZ.out _ (Below.refl _ _)
    have hx5 : Box w3.drew w.heap.size false 0 := hx2.later (Below.refl _ _).drew
    have hb5 : Below w.heap.size w w3.drew := hb2c.trans (Below.refl _ _).drew
    have hS0 : (fun W : World => W.cell? ⟨vb, off + p * 2, none⟩ = some (Value.bool x1) ∧ W.cell? ⟨vb, off + p * 2 + 1, none⟩ = some (Value.int .i64 x2) ∧ W.cell? ⟨vb, off, none⟩ = some (Value.bool y1) ∧ W.cell? ⟨vb, off + 1, none⟩ = some (Value.int .i64 y2)) _ := ⟨z0, z1, z2, z3⟩
    refine wp_region_noPanic ?_
    refine wp_region_held_drew (S := fun W : World => W.cell? ⟨vb, off + p * 2, none⟩ = some (Value.bool x1) ∧ W.cell? ⟨vb, off + p * 2 + 1, none⟩ = some (Value.int .i64 x2) ∧ W.cell? ⟨vb, off, none⟩ = some (Value.bool y1) ∧ W.cell? ⟨vb, off + 1, none⟩ = some (Value.int .i64 y2)) (by kernel_rfl) hS0 (fun _ => ?_)
    refine take_at 0 (some 81) (.slice (some ⟨vb, off, none⟩) n vc) rfl rfl (by kernel_rfl) (by kernel_rfl) (by kernel_rfl) (fun _ _ _ h => h) (by rfl) (fun W hSw => by obtain ⟨q0, q1, q2, q3⟩ := hSw; go_simp <;> exact EP.out) hS0 ?_
    simp only [Act.put, List.setIfInBounds_toArray, List.set_cons_zero, List.set_cons_succ]
    refine take_at 1 (some 82) (.int .i64 n) rfl rfl (by kernel_rfl) (by kernel_rfl) (by kernel_rfl) (fun _ _ _ h => h) (by rfl) (fun W hSw => by obtain ⟨q0, q1, q2, q3⟩ := hSw; go_simp <;> exact EP.out) hS0 ?_
    simp only [Act.put, List.setIfInBounds_toArray, List.set_cons_zero, List.set_cons_succ]
    refine take_at 2 (some 83) (.int .i64 p) rfl rfl (by kernel_rfl) (by kernel_rfl) (by kernel_rfl) (fun _ _ _ h => h) (by rfl) (fun W hSw => by obtain ⟨q0, q1, q2, q3⟩ := hSw; go_simp <;> exact EP.out) hS0 ?_
    simp only [Act.put, List.setIfInBounds_toArray, List.set_cons_zero, List.set_cons_succ]
    refine take_at 3 (some 84) (.pointer (some ⟨vb, off + p * 2, none⟩)) rfl rfl (by kernel_rfl) (by kernel_rfl) (by kernel_rfl) (fun _ _ _ h => h) (by rfl) (fun W hSw => by obtain ⟨q0, q1, q2, q3⟩ := hSw; go_simp <;> exact EP.out) hS0 ?_
    simp only [Act.put, List.setIfInBounds_toArray, List.set_cons_zero, List.set_cons_succ]
    refine take_at 4 (some 85) (.agg #[.bool x1, .int .i64 x2]) rfl rfl (by kernel_rfl) (by kernel_rfl) (by kernel_rfl) (fun _ _ _ h => h) (by rfl) (fun W hSw => by obtain ⟨q0, q1, q2, q3⟩ := hSw; go_simp <;> exact EP.out) hS0 ?_
    simp only [Act.put, List.setIfInBounds_toArray, List.set_cons_zero, List.set_cons_succ]
    refine take_at 5 (some 86) (.slice (some ⟨vb, off, none⟩) n vc) rfl rfl (by kernel_rfl) (by kernel_rfl) (by kernel_rfl) (fun _ _ _ h => h) (by rfl) (fun W hSw => by obtain ⟨q0, q1, q2, q3⟩ := hSw; go_simp <;> exact EP.out) hS0 ?_
    simp only [Act.put, List.setIfInBounds_toArray, List.set_cons_zero, List.set_cons_succ]
    refine take_at 6 (some 87) (.pointer (some ⟨vb, off, none⟩)) rfl rfl (by kernel_rfl) (by kernel_rfl) (by kernel_rfl) (fun _ _ _ h => h) (by rfl) (fun W hSw => by obtain ⟨q0, q1, q2, q3⟩ := hSw; go_simp <;> exact EP.out) hS0 ?_
    simp only [Act.put, List.setIfInBounds_toArray, List.set_cons_zero, List.set_cons_succ]
    refine take_at 7 (some 88) (.agg #[.bool y1, .int .i64 y2]) rfl rfl (by kernel_rfl) (by kernel_rfl) (by kernel_rfl) (fun _ _ _ h => h) (by rfl) (fun W hSw => by obtain ⟨q0, q1, q2, q3⟩ := hSw; go_simp <;> exact EP.out) hS0 ?_
    simp only [Act.put, List.setIfInBounds_toArray, List.set_cons_zero, List.set_cons_succ]
    refine wpAnyH_ready (rs := [8]) (by kernel_rfl) (by simp) ?_
    refine AllReadyH.cons rfl (fun K hK => ?_) AllReadyH.nil
    go_simp
    refine (hsb _).mono ?_
    rintro e w6 ⟨rfl, hb6⟩
    have hx6 := hx5.later hb6
    have hb6c := Below.chain hb5 hb6
    obtain ⟨u0, u1, u2, u3⟩ := HZ.out _ hb6
    have hS1 := (⟨u0, u1, u2, u3⟩ : (fun W : World => W.cell? ⟨vb, off + p * 2, none⟩ = some (Value.bool x1) ∧ W.cell? ⟨vb, off + p * 2 + 1, none⟩ = some (Value.int .i64 x2) ∧ W.cell? ⟨vb, off, none⟩ = some (Value.bool y1) ∧ W.cell? ⟨vb, off + 1, none⟩ = some (Value.int .i64 y2)) w6)
    refine hK.out _ _ hS1 (fun _ => ?_)
    clear hK K
    obtain ⟨c0, c1, g0, g1⟩ := id hx6
    obtain ⟨p0, p1, _, _⟩ := hx6.put (p := fo) (m := fn)
    have hv0 := set_keep w6 w.heap.size vb (off + p * 2) (.bool fo) (.int .i64 fn) hvb
    have hv1 := set_keep w6 w.heap.size vb (off + p * 2 + 1) (.bool fo) (.int .i64 fn) hvb
    have hv2 := set_keep w6 w.heap.size vb off (.bool fo) (.int .i64 fn) hvb
    have hv3 := set_keep w6 w.heap.size vb (off + 1) (.bool fo) (.int .i64 fn) hvb
    refine wpAnyH_ready (rs := [9]) (by kernel_rfl) (by simp) ?_
    refine AllReadyH.cons rfl (fun K hK => ?_) AllReadyH.nil
    go_simp
    have hS2 := (⟨hv0.trans u0, hv1.trans u1, hv2.trans u2, hv3.trans u3⟩ : (fun W : World => W.cell? ⟨vb, off + p * 2, none⟩ = some (Value.bool x1) ∧ W.cell? ⟨vb, off + p * 2 + 1, none⟩ = some (Value.int .i64 x2) ∧ W.cell? ⟨vb, off, none⟩ = some (Value.bool y1) ∧ W.cell? ⟨vb, off + 1, none⟩ = some (Value.int .i64 y2)) _)
    refine hK.out _ _ hS2 (fun _ => ?_)
    clear hK K
    refine wpAnyH_ready (rs := [10]) (by kernel_rfl) (by simp) ?_
    refine AllReadyH.cons rfl (fun K hK => ?_) AllReadyH.nil
    go_simp
    have hS3 := (⟨hv0.trans u0, hv1.trans u1, hv2.trans u2, hv3.trans u3⟩ : (fun W : World => W.cell? ⟨vb, off + p * 2, none⟩ = some (Value.bool x1) ∧ W.cell? ⟨vb, off + p * 2 + 1, none⟩ = some (Value.int .i64 x2) ∧ W.cell? ⟨vb, off, none⟩ = some (Value.bool y1) ∧ W.cell? ⟨vb, off + 1, none⟩ = some (Value.int .i64 y2)) _)
    refine hK.out _ _ hS3 (fun _ => ?_)
    clear hK K
    refine wpAnyH_done (by kernel_rfl) ?_ _
    refine NoPanic.normal ?_
    go_wp2
    exact bodyPost_ret (v := .tuple #[.agg #[.bool fo, .int .i64 fn], .bool true]) (by simp [results, Try.results31, go_sem, p0, p1]) rfl ⟨by rw [HQ1.out.1, HQ1.out.2], put2 hb6c (Nat.le_refl _) _ _⟩
end Go.Proofs.Ytchopogodfghoaa
