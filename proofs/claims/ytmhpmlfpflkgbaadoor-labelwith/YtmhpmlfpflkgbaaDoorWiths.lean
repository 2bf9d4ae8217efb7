/- LabelWith: what was set is told, what was set to nothing is gone, others stay; order plays no part where names are unlike. -/
import Derived.Test.YtmhpmlfpflkgbaaDoorWithPlain
namespace Go.Proofs.YtmhpmlfpflkgbaaDoor
open Go.RowKit

theorem same_w (xa : Option Addr) (n c : Nat) (a : List Pr) (ya : Option Addr) (m d : Nat) (b : List Pr) (w : World) (hn : n ≤ 9223372036854775807) (hm : m ≤ 9223372036854775807) (hx : Ps w xa n a) (hy : Ps w ya m b) :
    Calls Tryd.prog 11 #[.slice xa n c, .slice ya m d] w fun e w' => e = .returned (.bool (sameB a b)) ∧ Below w.heap.size w w' :=
  (same_any xa n c a ya m d b w hn hm hx hy).mono fun _ _ ⟨h1, k, h2⟩ => ⟨h1, by rw [h2]; exact below_drewN (Below.refl _ _) k⟩
theorem Own.slice5 {w : World} {base : Nat} {v : Value} {l : List Pr} {K : Nat} (h : Own w base v l) (hK : l.length = K) : ∃ ao cap, v = .slice ao K cap ∧ Ps w ao K l := by
  obtain ⟨ao, cap, e, hp⟩ := h.fitN
  subst hK
  exact ⟨ao, cap, e, hp⟩
theorem withL_fit {l a : List Pr} (hl : Fit l) (ha : Fit a) : Fit (withL l a) := by
  unfold withL
  split
  · exact Fit.filter (latest_fit hl ha) _
  · exact fun p hp => by cases hp
theorem withL_len (l a : List Pr) : (withL l a).length ≤ l.length + a.length := by
  unfold withL
  split
  · exact Nat.le_trans (List.length_filter_le _ _) (latest_len l a)
  · exact Nat.zero_le _
theorem sameB_self (l : List Pr) : sameB l l = true := by unfold sameB; simp
theorem fit_one {p : Pr} (h : p.1.length ≤ 9223372036854775807 ∧ p.2.length ≤ 9223372036854775807) : Fit [p] := fun q hq => by
  rw [List.mem_singleton.1 hq]; exact h
theorem fit_two {p q : Pr} (h : p.1.length ≤ 9223372036854775807 ∧ p.2.length ≤ 9223372036854775807) (k : q.1.length ≤ 9223372036854775807 ∧ q.2.length ≤ 9223372036854775807) : Fit [p, q] := fun r hr => by
  rcases List.mem_cons.1 hr with rfl | hr
  · exact h
  · rw [List.mem_singleton.1 hr]; exact k

set_option maxRecDepth 200000 in
set_option maxHeartbeats 8000000 in
theorem with_core (xa : Option Addr) (n c : Nat) (l : List Pr) (p1 p2 q1 q2 : Str) (w : World) (hn : n ≤ 20) (hf : Fit l) (hpf : p1.length ≤ 9223372036854775807 ∧ p2.length ≤ 9223372036854775807) (hqf : q1.length ≤ 9223372036854775807 ∧ q2.length ≤ 9223372036854775807) (hx : Ps w xa n l) (hM : Mx w) (bl : bigB l = false) (il : fIs l = true) (hp2 : p2.length ≤ 100) (hq2 : q2.length ≤ 100) (hE : withE l [(p1, p2)] = 0) :
    Calls Tryd.prog 5 #[.slice xa n c, .agg #[tx p1, tx p2], .agg #[tx q1, tx q2]] w fun e w' => e = .returned (.bool true) ∧ Below w.heap.size w w' := by
  have hn' : n ≤ 9223372036854775807 := Nat.le_trans hn (by decide)
  have hn1 : n ≤ 1000000 := Nat.le_trans hn (by decide)
  have hknown := fun (W : World) (hW : Below w.heap.size w W) => known_any W (hM.later hW)
  have hga := fun (W : World) (hW : Below w.heap.size w W) => big_any xa n c l W hn' hf (hx.later hW)
  have hia := fun (W : World) (hW : Below w.heap.size w W) => is_any xa n c l W hn' hf (hx.later hW)
  have hw1 := fun (W : World) (hW : Below w.heap.size w W) => with_any xa n c l (some ⟨W.heap.size, 0, none⟩) 1 1 [(p1, p2)] (W.alloc (.cells #[tx p1, tx p2] 35)) hn1 (by decide) hf (fit_one hpf) (hx.later (bal hW _)) (Ps.one W (p1, p2))
  have hw2 := fun (W : World) (hW : Below w.heap.size w W) => with_any xa n c l (some ⟨W.heap.size, 0, none⟩) 2 2 [(p1, p2), (q1, q2)] (W.alloc (.cells #[tx p1, tx p2, tx q1, tx q2] 35)) hn1 (by decide) hf (fit_two hpf hqf) (hx.later (bal hW _)) (Ps.two W (p1, p2) (q1, q2))
  have hw3 := fun (W : World) (hW : Below w.heap.size w W) => with_any xa n c l (some ⟨W.heap.size, 0, none⟩) 2 2 [(q1, q2), (p1, p2)] (W.alloc (.cells #[tx q1, tx q2, tx p1, tx p2] 35)) hn1 (by decide) hf (fit_two hqf hpf) (hx.later (bal hW _)) (Ps.two W (q1, q2) (p1, p2))
  rw [bl] at hga
  rw [il] at hia
  rw [hE] at hw1
  have gX := with_one hE
  have iX := (with_zero hE).1
  have fX : Fit (withL l [(p1, p2)]) := withL_fit hf (fit_one hpf)
  have nX : (withL l [(p1, p2)]).length ≤ 21 := Nat.le_trans (withL_len _ _) (by rw [hx.1]; simp; omega)
  have hst : ∀ j, j < n → (l.getD j ([], [])).1 ≠ p1 → fGet (withL l [(p1, p2)]) (l.getD j ([], [])).1 = (l.getD j ([], [])).2 := fun j hj hne =>
    with_stays il hE (by rw [getD_at (by rw [hx.1]; exact hj)]; exact List.getElem_mem _) hne
  have h23 : p1 ≠ q1 → withE l [(p1, p2), (q1, q2)] = withE l [(q1, q2), (p1, p2)] ∧ withL l [(p1, p2), (q1, q2)] = withL l [(q1, q2), (p1, p2)] := fun h => with_two h
  have n2 : (withL l [(p1, p2), (q1, q2)]).length ≤ 22 := Nat.le_trans (withL_len _ _) (by rw [hx.1]; simp; omega)
  generalize withL l [(p1, p2)] = X at *
  generalize withE l [(p1, p2), (q1, q2)] = E2 at *
  generalize withL l [(p1, p2), (q1, q2)] = Y at *
  generalize withE l [(q1, q2), (p1, p2)] = E3 at *
  generalize withL l [(q1, q2), (p1, p2)] = Z at *
  have eG := with_gone p1 iX
  have gG := with_one eG
  have nG : (withL X [(p1, [])]).length ≤ 22 := Nat.le_trans (withL_len _ _) (by simp; omega)
  have hw4 := fun (W : World) (ax : Option Addr) (K cx : Nat) (hK : X.length = K) (hP : Ps W ax K X) => with_any ax K cx X (some ⟨W.heap.size, 0, none⟩) 1 1 [(p1, [])] (W.alloc (.cells #[tx p1, tx []] 35)) (by omega) (by decide) fX (fit_one ⟨hpf.1, by simp⟩) (hP.later (bal (Below.refl _ _) _)) (Ps.one W (p1, []))
  rw [eG] at hw4
  generalize withL X [(p1, [])] = G at *
  obtain ⟨K, hK⟩ : ∃ q, X.length = q := ⟨_, rfl⟩
  obtain ⟨KG, hKG⟩ : ∃ q, G.length = q := ⟨_, rfl⟩
  have HK : Hid _ := hK
  have HKG : Hid _ := hKG
  rw [hK] at nX
  rw [hKG] at nG
  have HL : Hid (l.length = n) := hx.1
  obtain ⟨_, hcell⟩ := id hx
  have hp100 : ¬ (100 : Int) < p2.length := by omega
  have hq100 : ¬ (100 : Int) < q2.length := by omega
  have bx0 : Below w.heap.size w ((w.alloc (.cells #[tx p1, tx p2] 35)).alloc (.cells #[tx q1, tx q2] 35)) := bal (bal (Below.refl _ _) _) _
  have xp := (Box.new w (p1, p2)).later (bal (Below.refl _ _) (.cells #[tx q1, tx q2] 35))
  have xq := Box.new (w.alloc (.cells #[tx p1, tx p2] 35)) (q1, q2)
  have hsz : (w.alloc (.cells #[tx p1, tx p2] 35)).heap.size = w.heap.size + 1 := by simp
  rw [hsz] at xq
  clear hK hKG hE il bl hp2 hq2 hpf hqf eG hf hM hsz
  go_enter Tryd.func5, Tryd.ntmps5
  go_wp2_with fail
  refine (hknown _ bx0).mono ?_
  rintro e w0 ⟨rfl, hb0⟩
  have B0 := Below.chain bx0 hb0
  have xp0 := xp.later hb0
  have xq0 := xq.later hb0
  clear xp xq hb0 bx0 hknown
  go_wp2_with fail
  refine (hga _ B0).mono ?_
  rintro e w' ⟨rfl, rfl⟩
  go_wp2_with fail
  refine (hia _ B0).mono ?_
  rintro e w1 ⟨rfl, hb1⟩
  have B1 := Below.chain B0 hb1
  have yp := xp0.later hb1
  have yq := xq0.later hb1
  obtain ⟨s0, s1, _, _⟩ := id yp
  obtain ⟨_, t1, _, _⟩ := id yq
  clear hga hia xp0 xq0 B0 hb1
  go_wp2_with fail
  refine (hw1 _ B1).mono ?_
  rintro e w2 ⟨v2, rfl, ho2, hb2⟩
  have hb2' := Below.chain (bal (Below.refl _ w1) (.cells #[tx p1, tx p2] 35)) hb2
  have B2 := Below.chain B1 hb2'
  have zp := yp.later hb2'
  have zq := yq.later hb2'
  obtain ⟨ax, cx, rfl, hpx⟩ := ho2.slice5 HK.out
  clear yp yq s0 s1 t1 hw1 ho2 hb2 hb2' B1
  obtain ⟨s0, s1, _, _⟩ := id zp
  go_wp2_with fail
  refine (hw4 w2 ax K cx HK.out hpx).mono ?_
  rintro e w3 ⟨v3, rfl, ho3, hb3⟩
  have hb3' := Below.chain (bal (Below.refl _ w2) (.cells #[tx p1, tx []] 35)) hb3
  have B3 := Below.chain B2 hb3'
  have up := zp.later hb3'
  have uq := zq.later hb3'
  have hpx3 := hpx.later hb3'
  obtain ⟨ag, cg, rfl, hpg⟩ := ho3.slice5 HKG.out
  clear zp zq s0 s1 hw4 ho3 hb3 hb3' B2 hpx
  have m0 : ∀ W, Below w3.heap.size w3 W → W.cell? ⟨w.heap.size, 0, none⟩ = some (tx p1) := fun W hW => (up.later hW).c0
  have m1 : ∀ W, Below w3.heap.size w3 W → W.cell? ⟨w.heap.size, 1, none⟩ = some (tx p2) := fun W hW => (up.later hW).c1
  have u0 : ∀ W, Below w3.heap.size w3 W → W.cell? ⟨w.heap.size + 1, 0, none⟩ = some (tx q1) := fun W hW => (uq.later hW).c0
  have u1 : ∀ W, Below w3.heap.size w3 W → W.cell? ⟨w.heap.size + 1, 1, none⟩ = some (tx q2) := fun W hW => (uq.later hW).c1
  have hgx0 := fun (W : World) (hW : Below w3.heap.size w3 W) (s : Str) => get_any ax K cx X s W (by omega) (hpx3.later hW)
  have hgx := fun (W : World) (hW : Below w3.heap.size w3 W) => hgx0 W hW p1
  have hgg := fun (W : World) (hW : Below w3.heap.size w3 W) => get_any ag KG cg G p1 W (by omega) (hpg.later hW)
  have hix := fun (W : World) (hW : Below w3.heap.size w3 W) => is_any ax K cx X W (by omega) fX (hpx3.later hW)
  rw [gX] at hgx
  rw [gG] at hgg
  rw [iX] at hix
  clear up uq gX gG iX fX hpg hpx3
  by_cases hpe : p2 = []
  · have fp : (p2 == []) = true := by simpa using hpe
    clear hpe
    go_wp2_with fail
    have C0 : Below w3.heap.size w3 w3.drew := (Below.refl _ _).drew
    refine wp_region_noPanic ?_
    refine wp_region_held_drew (S := fun W => Below w3.heap.size w3 W) (by kernel_rfl) ?_ (fun _ => ?_)
    · exact C0
    generalize w3.drew = wd at *
    refine take_at 0 (some 57) (.slice ax K cx) rfl rfl (by kernel_rfl) (by kernel_rfl) (by kernel_rfl) (fun _ _ _ h => h) (by rfl) (fun W hSw => by go_simp) C0 ?_
    simp only [Act.put, List.setIfInBounds_toArray, List.set_cons_zero, List.set_cons_succ]
    refine take_at 1 (some 58) (.pointer (some ⟨w.heap.size, 0, none⟩)) rfl rfl (by kernel_rfl) (by kernel_rfl) (by kernel_rfl) (fun _ _ _ h => h) (by rfl) (fun W hSw => by go_simp) C0 ?_
    simp only [Act.put, List.setIfInBounds_toArray, List.set_cons_zero, List.set_cons_succ]
    refine take_at 2 (some 59) (tx p1) rfl rfl (by kernel_rfl) (by kernel_rfl) (by kernel_rfl) (fun _ _ _ h => h) (by rfl) (fun W hSw => by have c0 := m0 W hSw; go_simp) C0 ?_
    simp only [Act.put, List.setIfInBounds_toArray, List.set_cons_zero, List.set_cons_succ]
    refine take_at 4 (some 61) (.pointer (some ⟨w.heap.size, 1, none⟩)) rfl rfl (by kernel_rfl) (by kernel_rfl) (by kernel_rfl) (fun _ _ _ h => h) (by rfl) (fun W hSw => by go_simp) C0 ?_
    simp only [Act.put, List.setIfInBounds_toArray, List.set_cons_zero, List.set_cons_succ]
    refine take_at 5 (some 62) (tx p2) rfl rfl (by kernel_rfl) (by kernel_rfl) (by kernel_rfl) (fun _ _ _ h => h) (by rfl) (fun W hSw => by have c1 := m1 W hSw; go_simp) C0 ?_
    simp only [Act.put, List.setIfInBounds_toArray, List.set_cons_zero, List.set_cons_succ]
    refine wpAnyH_ready (rs := [3]) (by kernel_rfl) (by simp) ?_
    refine AllReadyH.cons rfl (fun K hK => ?_) AllReadyH.nil
    go_simp
    refine (hgx _ C0).mono ?_
    rintro e w5 ⟨rfl, hb5⟩
    have C5 := Below.chain C0 hb5
    refine hK.out _ _ ?_ (fun _ => ?_)
    · exact C5
    clear hK K
    refine take_at 6 (some 63) (.bool false) rfl rfl (by kernel_rfl) (by kernel_rfl) (by kernel_rfl) (fun _ _ _ h => h) (by rfl) (fun W hSw => by go_simp) C5 ?_
    simp only [Act.put, List.setIfInBounds_toArray, List.set_cons_zero, List.set_cons_succ]
    refine take_at 7 (some 64) (.bool false) rfl rfl (by kernel_rfl) (by kernel_rfl) (by kernel_rfl) (fun _ _ _ h => h) (by rfl) (fun W hSw => by go_simp) C5 ?_
    simp only [Act.put, List.setIfInBounds_toArray, List.set_cons_zero, List.set_cons_succ]
    refine take_at 8 (some 65) (.int .i64 0) rfl rfl (by kernel_rfl) (by kernel_rfl) (by kernel_rfl) (fun _ _ _ h => h) (by rfl) (fun W hSw => by go_simp) C5 ?_
    simp only [Act.put, List.setIfInBounds_toArray, List.set_cons_zero, List.set_cons_succ]
    refine take_at 9 (some 66) (.bool false) rfl rfl (by kernel_rfl) (by kernel_rfl) (by kernel_rfl) (fun _ _ _ h => h) (by rfl) (fun W hSw => by go_simp) C5 ?_
    simp only [Act.put, List.setIfInBounds_toArray, List.set_cons_zero, List.set_cons_succ]
    refine take_at 10 (some 67) (.bool false) rfl rfl (by kernel_rfl) (by kernel_rfl) (by kernel_rfl) (fun _ _ _ h => h) (by rfl) (fun W hSw => by go_simp) C5 ?_
    simp only [Act.put, List.setIfInBounds_toArray, List.set_cons_zero, List.set_cons_succ]
    refine take_at 11 (some 68) (.bool false) rfl rfl (by kernel_rfl) (by kernel_rfl) (by kernel_rfl) (fun _ _ _ h => h) (by rfl) (fun W hSw => by go_simp) C5 ?_
    simp only [Act.put, List.setIfInBounds_toArray, List.set_cons_zero, List.set_cons_succ]
    refine take_at 12 (some 69) (.slice ag KG cg) rfl rfl (by kernel_rfl) (by kernel_rfl) (by kernel_rfl) (fun _ _ _ h => h) (by rfl) (fun W hSw => by go_simp) C5 ?_
    simp only [Act.put, List.setIfInBounds_toArray, List.set_cons_zero, List.set_cons_succ]
    refine take_at 13 (some 70) (.pointer (some ⟨w.heap.size, 0, none⟩)) rfl rfl (by kernel_rfl) (by kernel_rfl) (by kernel_rfl) (fun _ _ _ h => h) (by rfl) (fun W hSw => by go_simp) C5 ?_
    simp only [Act.put, List.setIfInBounds_toArray, List.set_cons_zero, List.set_cons_succ]
    refine take_at 14 (some 71) (tx p1) rfl rfl (by kernel_rfl) (by kernel_rfl) (by kernel_rfl) (fun _ _ _ h => h) (by rfl) (fun W hSw => by have c0 := m0 W hSw; go_simp) C5 ?_
    simp only [Act.put, List.setIfInBounds_toArray, List.set_cons_zero, List.set_cons_succ]
    refine wpAnyH_ready (rs := [15]) (by kernel_rfl) (by simp) ?_
    refine AllReadyH.cons rfl (fun K hK => ?_) AllReadyH.nil
    go_simp
    refine (hgg _ C5).mono ?_
    rintro e w6 ⟨rfl, hb6⟩
    have C6 := Below.chain C5 hb6
    refine hK.out _ _ ?_ (fun _ => ?_)
    · exact C6
    clear hK K
    refine take_at 16 (some 73) (.bool false) rfl rfl (by kernel_rfl) (by kernel_rfl) (by kernel_rfl) (fun _ _ _ h => h) (by rfl) (fun W hSw => by go_simp) C6 ?_
    simp only [Act.put, List.setIfInBounds_toArray, List.set_cons_zero, List.set_cons_succ]
    refine take_at 17 (some 74) (.bool false) rfl rfl (by kernel_rfl) (by kernel_rfl) (by kernel_rfl) (fun _ _ _ h => h) (by rfl) (fun W hSw => by go_simp) C6 ?_
    simp only [Act.put, List.setIfInBounds_toArray, List.set_cons_zero, List.set_cons_succ]
    refine take_at 18 (some 75) (.bool false) rfl rfl (by kernel_rfl) (by kernel_rfl) (by kernel_rfl) (fun _ _ _ h => h) (by rfl) (fun W hSw => by go_simp) C6 ?_
    simp only [Act.put, List.setIfInBounds_toArray, List.set_cons_zero, List.set_cons_succ]
    refine take_at 19 (some 76) (.pointer (some ⟨w.heap.size, 1, none⟩)) rfl rfl (by kernel_rfl) (by kernel_rfl) (by kernel_rfl) (fun _ _ _ h => h) (by rfl) (fun W hSw => by go_simp) C6 ?_
    simp only [Act.put, List.setIfInBounds_toArray, List.set_cons_zero, List.set_cons_succ]
    refine take_at 20 (some 77) (tx p2) rfl rfl (by kernel_rfl) (by kernel_rfl) (by kernel_rfl) (fun _ _ _ h => h) (by rfl) (fun W hSw => by have c1 := m1 W hSw; go_simp) C6 ?_
    simp only [Act.put, List.setIfInBounds_toArray, List.set_cons_zero, List.set_cons_succ]
    refine take_at 21 (some 78) (.bool false) rfl rfl (by kernel_rfl) (by kernel_rfl) (by kernel_rfl) (fun _ _ _ h => h) (by rfl) (fun W hSw => by go_simp) C6 ?_
    simp only [Act.put, List.setIfInBounds_toArray, List.set_cons_zero, List.set_cons_succ]
    refine take_at 22 (some 79) (.bool false) rfl rfl (by kernel_rfl) (by kernel_rfl) (by kernel_rfl) (fun _ _ _ h => h) (by rfl) (fun W hSw => by go_simp) C6 ?_
    simp only [Act.put, List.setIfInBounds_toArray, List.set_cons_zero, List.set_cons_succ]
    refine skip_at 23 (some 80) rfl rfl (by kernel_rfl) (by kernel_rfl) (by kernel_rfl) (fun _ _ _ h => h) (by rfl) C6 ?_
    simp only [Act.put, List.setIfInBounds_toArray, List.set_cons_zero, List.set_cons_succ]
    refine skip_at 24 (some 81) rfl rfl (by kernel_rfl) (by kernel_rfl) (by kernel_rfl) (fun _ _ _ h => h) (by rfl) C6 ?_
    simp only [Act.put, List.setIfInBounds_toArray, List.set_cons_zero, List.set_cons_succ]
    refine skip_at 25 (some 82) rfl rfl (by kernel_rfl) (by kernel_rfl) (by kernel_rfl) (fun _ _ _ h => h) (by rfl) C6 ?_
    simp only [Act.put, List.setIfInBounds_toArray, List.set_cons_zero, List.set_cons_succ]
    refine take_at 26 (some 83) (.bool false) rfl rfl (by kernel_rfl) (by kernel_rfl) (by kernel_rfl) (fun _ _ _ h => h) (by rfl) (fun W hSw => by go_simp) C6 ?_
    simp only [Act.put, List.setIfInBounds_toArray, List.set_cons_zero, List.set_cons_succ]
    refine take_at 27 (some 84) (.bool false) rfl rfl (by kernel_rfl) (by kernel_rfl) (by kernel_rfl) (fun _ _ _ h => h) (by rfl) (fun W hSw => by go_simp) C6 ?_
    simp only [Act.put, List.setIfInBounds_toArray, List.set_cons_zero, List.set_cons_succ]
    refine wpAnyH_done (by kernel_rfl) ?_ _
    refine NoPanic.normal ?_
    clear hgx hgg hix hp100 hq100
    go_wp2_with fail
    go_loopw [11] (fun i wr => ∃ j : Nat, j ≤ n ∧ i = .int .i64 j ∧ Below w3.heap.size w3 wr) (fun i _ => n - (intOf i).toNat)
    case atStart => exact ⟨0, by omega, rfl, C6⟩
    case round =>
      obtain ⟨j, hj, rfl, hbr⟩ := hrel
      have BR : Below w.heap.size w wr := Below.chain B3 hbr
      by_cases hlt : j < n
      · obtain ⟨b1, o1, rfl, h1⟩ := hcell (by omega)
        obtain ⟨c10, c11⟩ := h1 j hlt
        have r0 : ∀ W, Below wr.heap.size wr W → W.cell? ⟨b1, o1 + j * 2, none⟩ = some (tx (l.getD j ([], [])).1) := fun W hW => by
          have := Below.chain BR hW
          exact (this.cell (p := ⟨b1, o1 + j * 2, none⟩) (World.block_lt_of_cell? _ _ c10)).trans c10
        have r1 : ∀ W, Below wr.heap.size wr W → W.cell? ⟨b1, o1 + j * 2 + 1, none⟩ = some (tx (l.getD j ([], [])).2) := fun W hW => by
          have := Below.chain BR hW
          exact (this.cell (p := ⟨b1, o1 + j * 2 + 1, none⟩) (World.block_lt_of_cell? _ _ c11)).trans c11
        have m0 : ∀ W, Below wr.heap.size wr W → W.cell? ⟨w.heap.size, 0, none⟩ = some (tx p1) := fun W hW => m0 W (Below.chain hbr hW)
        have hgr := fun (W : World) (hW : Below wr.heap.size wr W) => hgx0 W (Below.chain hbr hW) (l.getD j ([], [])).1
        have HS : Hid _ := hst j hlt
        clear h1 hcell c10 c11 hst hgx0 hw2 hw3 h23 u0 u1 m1
        generalize l.getD j ([], []) = a at *
        obtain ⟨a1, a2⟩ := a
        dsimp only at *
        by_cases hne : a1 = p1
        · have hne' : (a1 == p1) = true := by simpa using hne
          clear hne HS hgr
          go_wp2_with fail
          have D0 : Below wr.heap.size wr wr.drew := (Below.refl _ _).drew
          refine wp_region_noPanic ?_
          refine wp_region_held_drew (S := fun W => Below wr.heap.size wr W) (by kernel_rfl) ?_ (fun _ => ?_)
          · exact D0
          generalize wr.drew = wd2 at *
          refine take_at 0 (some 91) (.slice (some ⟨b1, o1, none⟩) n c) rfl rfl (by kernel_rfl) (by kernel_rfl) (by kernel_rfl) (fun _ _ _ h => h) (by rfl) (fun W hSw => by go_simp) D0 ?_
          simp only [Act.put, List.setIfInBounds_toArray, List.set_cons_zero, List.set_cons_succ]
          refine take_at 1 (some 92) (.int .i64 j) rfl rfl (by kernel_rfl) (by kernel_rfl) (by kernel_rfl) (fun _ _ _ h => h) (by rfl) (fun W hSw => by go_simp) D0 ?_
          simp only [Act.put, List.setIfInBounds_toArray, List.set_cons_zero, List.set_cons_succ]
          refine take_at 2 (some 93) (.pointer (some ⟨b1, o1 + j * 2, none⟩)) rfl rfl (by kernel_rfl) (by kernel_rfl) (by kernel_rfl) (fun _ _ _ h => h) (by rfl) (fun W hSw => by go_simp) D0 ?_
          simp only [Act.put, List.setIfInBounds_toArray, List.set_cons_zero, List.set_cons_succ]
          refine take_at 3 (some 94) (.pointer (some ⟨b1, o1 + j * 2, none⟩)) rfl rfl (by kernel_rfl) (by kernel_rfl) (by kernel_rfl) (fun _ _ _ h => h) (by rfl) (fun W hSw => by go_simp) D0 ?_
          simp only [Act.put, List.setIfInBounds_toArray, List.set_cons_zero, List.set_cons_succ]
          refine take_at 4 (some 95) (tx a1) rfl rfl (by kernel_rfl) (by kernel_rfl) (by kernel_rfl) (fun _ _ _ h => h) (by rfl) (fun W hSw => by have c0 := r0 W hSw; go_simp) D0 ?_
          simp only [Act.put, List.setIfInBounds_toArray, List.set_cons_zero, List.set_cons_succ]
          refine take_at 5 (some 96) (.pointer (some ⟨w.heap.size, 0, none⟩)) rfl rfl (by kernel_rfl) (by kernel_rfl) (by kernel_rfl) (fun _ _ _ h => h) (by rfl) (fun W hSw => by go_simp) D0 ?_
          simp only [Act.put, List.setIfInBounds_toArray, List.set_cons_zero, List.set_cons_succ]
          refine take_at 6 (some 97) (tx p1) rfl rfl (by kernel_rfl) (by kernel_rfl) (by kernel_rfl) (fun _ _ _ h => h) (by rfl) (fun W hSw => by have c0 := m0 W hSw; go_simp) D0 ?_
          simp only [Act.put, List.setIfInBounds_toArray, List.set_cons_zero, List.set_cons_succ]
          refine take_at 7 (some 98) (.bool false) rfl rfl (by kernel_rfl) (by kernel_rfl) (by kernel_rfl) (fun _ _ _ h => h) (by rfl) (fun W hSw => by go_simp) D0 ?_
          simp only [Act.put, List.setIfInBounds_toArray, List.set_cons_zero, List.set_cons_succ]
          refine take_at 8 (some 99) (.bool false) rfl rfl (by kernel_rfl) (by kernel_rfl) (by kernel_rfl) (fun _ _ _ h => h) (by rfl) (fun W hSw => by go_simp) D0 ?_
          simp only [Act.put, List.setIfInBounds_toArray, List.set_cons_zero, List.set_cons_succ]
          refine skip_at 9 (some 100) rfl rfl (by kernel_rfl) (by kernel_rfl) (by kernel_rfl) (fun _ _ _ h => h) (by rfl) D0 ?_
          simp only [Act.put, List.setIfInBounds_toArray, List.set_cons_zero, List.set_cons_succ]
          refine skip_at 10 (some 101) rfl rfl (by kernel_rfl) (by kernel_rfl) (by kernel_rfl) (fun _ _ _ h => h) (by rfl) D0 ?_
          simp only [Act.put, List.setIfInBounds_toArray, List.set_cons_zero, List.set_cons_succ]
          refine skip_at 11 (some 102) rfl rfl (by kernel_rfl) (by kernel_rfl) (by kernel_rfl) (fun _ _ _ h => h) (by rfl) D0 ?_
          simp only [Act.put, List.setIfInBounds_toArray, List.set_cons_zero, List.set_cons_succ]
          refine skip_at 12 (some 103) rfl rfl (by kernel_rfl) (by kernel_rfl) (by kernel_rfl) (fun _ _ _ h => h) (by rfl) D0 ?_
          simp only [Act.put, List.setIfInBounds_toArray, List.set_cons_zero, List.set_cons_succ]
          refine skip_at 13 (some 104) rfl rfl (by kernel_rfl) (by kernel_rfl) (by kernel_rfl) (fun _ _ _ h => h) (by rfl) D0 ?_
          simp only [Act.put, List.setIfInBounds_toArray, List.set_cons_zero, List.set_cons_succ]
          refine skip_at 14 (some 105) rfl rfl (by kernel_rfl) (by kernel_rfl) (by kernel_rfl) (fun _ _ _ h => h) (by rfl) D0 ?_
          simp only [Act.put, List.setIfInBounds_toArray, List.set_cons_zero, List.set_cons_succ]
          refine skip_at 15 (some 106) rfl rfl (by kernel_rfl) (by kernel_rfl) (by kernel_rfl) (fun _ _ _ h => h) (by rfl) D0 ?_
          simp only [Act.put, List.setIfInBounds_toArray, List.set_cons_zero, List.set_cons_succ]
          refine skip_at 16 (some 107) rfl rfl (by kernel_rfl) (by kernel_rfl) (by kernel_rfl) (fun _ _ _ h => h) (by rfl) D0 ?_
          simp only [Act.put, List.setIfInBounds_toArray, List.set_cons_zero, List.set_cons_succ]
          refine skip_at 17 (some 108) rfl rfl (by kernel_rfl) (by kernel_rfl) (by kernel_rfl) (fun _ _ _ h => h) (by rfl) D0 ?_
          simp only [Act.put, List.setIfInBounds_toArray, List.set_cons_zero, List.set_cons_succ]
          refine skip_at 18 (some 109) rfl rfl (by kernel_rfl) (by kernel_rfl) (by kernel_rfl) (fun _ _ _ h => h) (by rfl) D0 ?_
          simp only [Act.put, List.setIfInBounds_toArray, List.set_cons_zero, List.set_cons_succ]
          refine skip_at 19 (some 110) rfl rfl (by kernel_rfl) (by kernel_rfl) (by kernel_rfl) (fun _ _ _ h => h) (by rfl) D0 ?_
          simp only [Act.put, List.setIfInBounds_toArray, List.set_cons_zero, List.set_cons_succ]
          refine skip_at 20 (some 111) rfl rfl (by kernel_rfl) (by kernel_rfl) (by kernel_rfl) (fun _ _ _ h => h) (by rfl) D0 ?_
          simp only [Act.put, List.setIfInBounds_toArray, List.set_cons_zero, List.set_cons_succ]
          refine skip_at 21 (some 112) rfl rfl (by kernel_rfl) (by kernel_rfl) (by kernel_rfl) (fun _ _ _ h => h) (by rfl) D0 ?_
          simp only [Act.put, List.setIfInBounds_toArray, List.set_cons_zero, List.set_cons_succ]
          refine take_at 22 (some 113) (.bool false) rfl rfl (by kernel_rfl) (by kernel_rfl) (by kernel_rfl) (fun _ _ _ h => h) (by rfl) (fun W hSw => by go_simp) D0 ?_
          simp only [Act.put, List.setIfInBounds_toArray, List.set_cons_zero, List.set_cons_succ]
          refine wpAnyH_done (by kernel_rfl) ?_ _
          refine NoPanic.normal ?_
          go_wp2
          go_roundw
          case rel => exact ⟨j + 1, by omega, by go_num, Below.chain hbr D0⟩
          case measure => simp [intOf]; omega
        · have hne' : (a1 == p1) = false := by simpa using hne
          rw [HS.out hne] at hgr
          clear hne HS
          go_wp2_with fail
          have D0 : Below wr.heap.size wr wr.drew := (Below.refl _ _).drew
          refine wp_region_noPanic ?_
          refine wp_region_held_drew (S := fun W => Below wr.heap.size wr W) (by kernel_rfl) ?_ (fun _ => ?_)
          · exact D0
          generalize wr.drew = wd2 at *
          refine take_at 0 (some 91) (.slice (some ⟨b1, o1, none⟩) n c) rfl rfl (by kernel_rfl) (by kernel_rfl) (by kernel_rfl) (fun _ _ _ h => h) (by rfl) (fun W hSw => by go_simp) D0 ?_
          simp only [Act.put, List.setIfInBounds_toArray, List.set_cons_zero, List.set_cons_succ]
          refine take_at 1 (some 92) (.int .i64 j) rfl rfl (by kernel_rfl) (by kernel_rfl) (by kernel_rfl) (fun _ _ _ h => h) (by rfl) (fun W hSw => by go_simp) D0 ?_
          simp only [Act.put, List.setIfInBounds_toArray, List.set_cons_zero, List.set_cons_succ]
          refine take_at 2 (some 93) (.pointer (some ⟨b1, o1 + j * 2, none⟩)) rfl rfl (by kernel_rfl) (by kernel_rfl) (by kernel_rfl) (fun _ _ _ h => h) (by rfl) (fun W hSw => by go_simp) D0 ?_
          simp only [Act.put, List.setIfInBounds_toArray, List.set_cons_zero, List.set_cons_succ]
          refine take_at 3 (some 94) (.pointer (some ⟨b1, o1 + j * 2, none⟩)) rfl rfl (by kernel_rfl) (by kernel_rfl) (by kernel_rfl) (fun _ _ _ h => h) (by rfl) (fun W hSw => by go_simp) D0 ?_
          simp only [Act.put, List.setIfInBounds_toArray, List.set_cons_zero, List.set_cons_succ]
          refine take_at 4 (some 95) (tx a1) rfl rfl (by kernel_rfl) (by kernel_rfl) (by kernel_rfl) (fun _ _ _ h => h) (by rfl) (fun W hSw => by have c0 := r0 W hSw; go_simp) D0 ?_
          simp only [Act.put, List.setIfInBounds_toArray, List.set_cons_zero, List.set_cons_succ]
          refine take_at 5 (some 96) (.pointer (some ⟨w.heap.size, 0, none⟩)) rfl rfl (by kernel_rfl) (by kernel_rfl) (by kernel_rfl) (fun _ _ _ h => h) (by rfl) (fun W hSw => by go_simp) D0 ?_
          simp only [Act.put, List.setIfInBounds_toArray, List.set_cons_zero, List.set_cons_succ]
          refine take_at 6 (some 97) (tx p1) rfl rfl (by kernel_rfl) (by kernel_rfl) (by kernel_rfl) (fun _ _ _ h => h) (by rfl) (fun W hSw => by have c0 := m0 W hSw; go_simp) D0 ?_
          simp only [Act.put, List.setIfInBounds_toArray, List.set_cons_zero, List.set_cons_succ]
          refine take_at 7 (some 98) (.bool true) rfl rfl (by kernel_rfl) (by kernel_rfl) (by kernel_rfl) (fun _ _ _ h => h) (by rfl) (fun W hSw => by go_simp) D0 ?_
          simp only [Act.put, List.setIfInBounds_toArray, List.set_cons_zero, List.set_cons_succ]
          refine take_at 8 (some 99) (.bool true) rfl rfl (by kernel_rfl) (by kernel_rfl) (by kernel_rfl) (fun _ _ _ h => h) (by rfl) (fun W hSw => by go_simp) D0 ?_
          simp only [Act.put, List.setIfInBounds_toArray, List.set_cons_zero, List.set_cons_succ]
          refine take_at 9 (some 100) (.slice ax K cx) rfl rfl (by kernel_rfl) (by kernel_rfl) (by kernel_rfl) (fun _ _ _ h => h) (by rfl) (fun W hSw => by go_simp) D0 ?_
          simp only [Act.put, List.setIfInBounds_toArray, List.set_cons_zero, List.set_cons_succ]
          refine take_at 10 (some 101) (.slice (some ⟨b1, o1, none⟩) n c) rfl rfl (by kernel_rfl) (by kernel_rfl) (by kernel_rfl) (fun _ _ _ h => h) (by rfl) (fun W hSw => by go_simp) D0 ?_
          simp only [Act.put, List.setIfInBounds_toArray, List.set_cons_zero, List.set_cons_succ]
          refine take_at 11 (some 102) (.int .i64 j) rfl rfl (by kernel_rfl) (by kernel_rfl) (by kernel_rfl) (fun _ _ _ h => h) (by rfl) (fun W hSw => by go_simp) D0 ?_
          simp only [Act.put, List.setIfInBounds_toArray, List.set_cons_zero, List.set_cons_succ]
          refine take_at 12 (some 103) (.pointer (some ⟨b1, o1 + j * 2, none⟩)) rfl rfl (by kernel_rfl) (by kernel_rfl) (by kernel_rfl) (fun _ _ _ h => h) (by rfl) (fun W hSw => by go_simp) D0 ?_
          simp only [Act.put, List.setIfInBounds_toArray, List.set_cons_zero, List.set_cons_succ]
          refine take_at 13 (some 104) (.pointer (some ⟨b1, o1 + j * 2, none⟩)) rfl rfl (by kernel_rfl) (by kernel_rfl) (by kernel_rfl) (fun _ _ _ h => h) (by rfl) (fun W hSw => by go_simp) D0 ?_
          simp only [Act.put, List.setIfInBounds_toArray, List.set_cons_zero, List.set_cons_succ]
          refine take_at 14 (some 105) (tx a1) rfl rfl (by kernel_rfl) (by kernel_rfl) (by kernel_rfl) (fun _ _ _ h => h) (by rfl) (fun W hSw => by have c0 := r0 W hSw; go_simp) D0 ?_
          simp only [Act.put, List.setIfInBounds_toArray, List.set_cons_zero, List.set_cons_succ]
          refine take_at 16 (some 107) (.slice (some ⟨b1, o1, none⟩) n c) rfl rfl (by kernel_rfl) (by kernel_rfl) (by kernel_rfl) (fun _ _ _ h => h) (by rfl) (fun W hSw => by go_simp) D0 ?_
          simp only [Act.put, List.setIfInBounds_toArray, List.set_cons_zero, List.set_cons_succ]
          refine take_at 17 (some 108) (.int .i64 j) rfl rfl (by kernel_rfl) (by kernel_rfl) (by kernel_rfl) (fun _ _ _ h => h) (by rfl) (fun W hSw => by go_simp) D0 ?_
          simp only [Act.put, List.setIfInBounds_toArray, List.set_cons_zero, List.set_cons_succ]
          refine take_at 18 (some 109) (.pointer (some ⟨b1, o1 + j * 2, none⟩)) rfl rfl (by kernel_rfl) (by kernel_rfl) (by kernel_rfl) (fun _ _ _ h => h) (by rfl) (fun W hSw => by go_simp) D0 ?_
          simp only [Act.put, List.setIfInBounds_toArray, List.set_cons_zero, List.set_cons_succ]
          refine take_at 19 (some 110) (.pointer (some ⟨b1, o1 + j * 2 + 1, none⟩)) rfl rfl (by kernel_rfl) (by kernel_rfl) (by kernel_rfl) (fun _ _ _ h => h) (by rfl) (fun W hSw => by go_simp) D0 ?_
          simp only [Act.put, List.setIfInBounds_toArray, List.set_cons_zero, List.set_cons_succ]
          refine take_at 20 (some 111) (tx a2) rfl rfl (by kernel_rfl) (by kernel_rfl) (by kernel_rfl) (fun _ _ _ h => h) (by rfl) (fun W hSw => by have c1 := r1 W hSw; go_simp) D0 ?_
          simp only [Act.put, List.setIfInBounds_toArray, List.set_cons_zero, List.set_cons_succ]
          refine wpAnyH_ready (rs := [15]) (by kernel_rfl) (by simp) ?_
          refine AllReadyH.cons rfl (fun K hK => ?_) AllReadyH.nil
          go_simp
          refine (hgr _ D0).mono ?_
          rintro e w8 ⟨rfl, hb8⟩
          have D8 := Below.chain D0 hb8
          refine hK.out _ _ ?_ (fun _ => ?_)
          · exact D8
          clear hK K
          refine take_at 21 (some 112) (.bool false) rfl rfl (by kernel_rfl) (by kernel_rfl) (by kernel_rfl) (fun _ _ _ h => h) (by rfl) (fun W hSw => by go_simp) D8 ?_
          simp only [Act.put, List.setIfInBounds_toArray, List.set_cons_zero, List.set_cons_succ]
          refine take_at 22 (some 113) (.bool false) rfl rfl (by kernel_rfl) (by kernel_rfl) (by kernel_rfl) (fun _ _ _ h => h) (by rfl) (fun W hSw => by go_simp) D8 ?_
          simp only [Act.put, List.setIfInBounds_toArray, List.set_cons_zero, List.set_cons_succ]
          refine wpAnyH_done (by kernel_rfl) ?_ _
          refine NoPanic.normal ?_
          go_wp2
          go_roundw
          case rel => exact ⟨j + 1, by omega, by go_num, Below.chain hbr D8⟩
          case measure => simp [intOf]; omega
      · have k0 := m0 wr hbr
        have k1 := m1 wr hbr
        have l0 := u0 wr hbr
        have l1 := u1 wr hbr
        clear hcell hst hgx0
        go_wp2_with fail
        refine (hw2 wr BR).mono ?_
        rintro e w5 ⟨v5, rfl, ho5, hb5⟩
        have hb5' := Below.chain (bal (Below.refl _ wr) (.cells #[tx p1, tx p2, tx q1, tx q2] 35)) hb5
        have Q5 := Below.chain hbr hb5'
        have B5 := Below.chain BR hb5'
        clear k0 k1 l0 l1 hw2 hb5
        have k0 := m0 w5 Q5
        have k1 := m1 w5 Q5
        have l0 := u0 w5 Q5
        have l1 := u1 w5 Q5
        by_cases hpq : p1 = q1
        · have hpq' : (p1 == q1) = true := by simpa using hpq
          clear hpq h23 ho5
          go_wp2_with fail
          refine (hw3 w5 B5).mono ?_
          rintro e w6 ⟨v6, rfl, _, hb6⟩
          have hb6' := Below.chain (bal (Below.refl _ w5) (.cells #[tx q1, tx q2, tx p1, tx p2] 35)) hb6
          have Q6 := Below.chain Q5 hb6'
          have B6 := Below.chain B5 hb6'
          clear k0 k1 l0 l1 hw3 hb6
          have k0 := m0 w6 Q6
          have l0 := u0 w6 Q6
          go_wp2_with fail
          go_ret
          exact ⟨rfl, B6⟩
        · obtain ⟨e23, l23⟩ := h23 hpq
          rw [← e23, ← l23] at hw3
          have hpq' : (p1 == q1) = false := by simpa using hpq
          clear hpq h23 e23 l23
          obtain ⟨KY, hKY⟩ : ∃ q, Y.length = q := ⟨_, rfl⟩
          rw [hKY] at n2
          have HKY : Hid _ := hKY
          clear hKY
          obtain ⟨ay, cy, rfl, hpy⟩ := ho5.slice5 HKY.out
          clear ho5
          go_wp2_with fail
          refine (hw3 w5 B5).mono ?_
          rintro e w6 ⟨v6, rfl, ho6, hb6⟩
          have hb6' := Below.chain (bal (Below.refl _ w5) (.cells #[tx q1, tx q2, tx p1, tx p2] 35)) hb6
          have Q6 := Below.chain Q5 hb6'
          have B6 := Below.chain B5 hb6'
          obtain ⟨az, cz, rfl, hpz⟩ := ho6.slice5 HKY.out
          have hsm := same_w ay KY cy Y az KY cz Y w6 (by omega) (by omega) (hpy.later hb6') hpz
          rw [sameB_self] at hsm
          clear k0 k1 l0 l1 hw3 hb6 ho6 hpy hpz
          have k0 := m0 w6 Q6
          have l0 := u0 w6 Q6
          go_wp2_with fail
          refine hsm.mono ?_
          rintro e w7 ⟨rfl, hb7⟩
          go_wp2_with fail
          go_ret
          exact ⟨rfl, Below.chain B6 hb7⟩
  · have fp : (p2 == []) = false := by simpa using hpe
    clear hpe
    go_wp2_with fail
    have C0 : Below w3.heap.size w3 w3.drew := (Below.refl _ _).drew
    refine wp_region_noPanic ?_
    refine wp_region_held_drew (S := fun W => Below w3.heap.size w3 W) (by kernel_rfl) ?_ (fun _ => ?_)
    · exact C0
    generalize w3.drew = wd at *
    refine take_at 0 (some 57) (.slice ax K cx) rfl rfl (by kernel_rfl) (by kernel_rfl) (by kernel_rfl) (fun _ _ _ h => h) (by rfl) (fun W hSw => by go_simp) C0 ?_
    simp only [Act.put, List.setIfInBounds_toArray, List.set_cons_zero, List.set_cons_succ]
    refine take_at 1 (some 58) (.pointer (some ⟨w.heap.size, 0, none⟩)) rfl rfl (by kernel_rfl) (by kernel_rfl) (by kernel_rfl) (fun _ _ _ h => h) (by rfl) (fun W hSw => by go_simp) C0 ?_
    simp only [Act.put, List.setIfInBounds_toArray, List.set_cons_zero, List.set_cons_succ]
    refine take_at 2 (some 59) (tx p1) rfl rfl (by kernel_rfl) (by kernel_rfl) (by kernel_rfl) (fun _ _ _ h => h) (by rfl) (fun W hSw => by have c0 := m0 W hSw; go_simp) C0 ?_
    simp only [Act.put, List.setIfInBounds_toArray, List.set_cons_zero, List.set_cons_succ]
    refine take_at 4 (some 61) (.pointer (some ⟨w.heap.size, 1, none⟩)) rfl rfl (by kernel_rfl) (by kernel_rfl) (by kernel_rfl) (fun _ _ _ h => h) (by rfl) (fun W hSw => by go_simp) C0 ?_
    simp only [Act.put, List.setIfInBounds_toArray, List.set_cons_zero, List.set_cons_succ]
    refine take_at 5 (some 62) (tx p2) rfl rfl (by kernel_rfl) (by kernel_rfl) (by kernel_rfl) (fun _ _ _ h => h) (by rfl) (fun W hSw => by have c1 := m1 W hSw; go_simp) C0 ?_
    simp only [Act.put, List.setIfInBounds_toArray, List.set_cons_zero, List.set_cons_succ]
    refine wpAnyH_ready (rs := [3]) (by kernel_rfl) (by simp) ?_
    refine AllReadyH.cons rfl (fun K hK => ?_) AllReadyH.nil
    go_simp
    refine (hgx _ C0).mono ?_
    rintro e w5 ⟨rfl, hb5⟩
    have C5 := Below.chain C0 hb5
    refine hK.out _ _ ?_ (fun _ => ?_)
    · exact C5
    clear hK K
    refine take_at 6 (some 63) (.bool false) rfl rfl (by kernel_rfl) (by kernel_rfl) (by kernel_rfl) (fun _ _ _ h => h) (by rfl) (fun W hSw => by go_simp) C5 ?_
    simp only [Act.put, List.setIfInBounds_toArray, List.set_cons_zero, List.set_cons_succ]
    refine take_at 7 (some 64) (.bool false) rfl rfl (by kernel_rfl) (by kernel_rfl) (by kernel_rfl) (fun _ _ _ h => h) (by rfl) (fun W hSw => by go_simp) C5 ?_
    simp only [Act.put, List.setIfInBounds_toArray, List.set_cons_zero, List.set_cons_succ]
    refine take_at 8 (some 65) (.int .i64 0) rfl rfl (by kernel_rfl) (by kernel_rfl) (by kernel_rfl) (fun _ _ _ h => h) (by rfl) (fun W hSw => by go_simp) C5 ?_
    simp only [Act.put, List.setIfInBounds_toArray, List.set_cons_zero, List.set_cons_succ]
    refine take_at 9 (some 66) (.bool false) rfl rfl (by kernel_rfl) (by kernel_rfl) (by kernel_rfl) (fun _ _ _ h => h) (by rfl) (fun W hSw => by go_simp) C5 ?_
    simp only [Act.put, List.setIfInBounds_toArray, List.set_cons_zero, List.set_cons_succ]
    refine take_at 10 (some 67) (.bool false) rfl rfl (by kernel_rfl) (by kernel_rfl) (by kernel_rfl) (fun _ _ _ h => h) (by rfl) (fun W hSw => by go_simp) C5 ?_
    simp only [Act.put, List.setIfInBounds_toArray, List.set_cons_zero, List.set_cons_succ]
    refine take_at 11 (some 68) (.bool false) rfl rfl (by kernel_rfl) (by kernel_rfl) (by kernel_rfl) (fun _ _ _ h => h) (by rfl) (fun W hSw => by go_simp) C5 ?_
    simp only [Act.put, List.setIfInBounds_toArray, List.set_cons_zero, List.set_cons_succ]
    refine take_at 12 (some 69) (.slice ag KG cg) rfl rfl (by kernel_rfl) (by kernel_rfl) (by kernel_rfl) (fun _ _ _ h => h) (by rfl) (fun W hSw => by go_simp) C5 ?_
    simp only [Act.put, List.setIfInBounds_toArray, List.set_cons_zero, List.set_cons_succ]
    refine take_at 13 (some 70) (.pointer (some ⟨w.heap.size, 0, none⟩)) rfl rfl (by kernel_rfl) (by kernel_rfl) (by kernel_rfl) (fun _ _ _ h => h) (by rfl) (fun W hSw => by go_simp) C5 ?_
    simp only [Act.put, List.setIfInBounds_toArray, List.set_cons_zero, List.set_cons_succ]
    refine take_at 14 (some 71) (tx p1) rfl rfl (by kernel_rfl) (by kernel_rfl) (by kernel_rfl) (fun _ _ _ h => h) (by rfl) (fun W hSw => by have c0 := m0 W hSw; go_simp) C5 ?_
    simp only [Act.put, List.setIfInBounds_toArray, List.set_cons_zero, List.set_cons_succ]
    refine wpAnyH_ready (rs := [15]) (by kernel_rfl) (by simp) ?_
    refine AllReadyH.cons rfl (fun K hK => ?_) AllReadyH.nil
    go_simp
    refine (hgg _ C5).mono ?_
    rintro e w6 ⟨rfl, hb6⟩
    have C6 := Below.chain C5 hb6
    refine hK.out _ _ ?_ (fun _ => ?_)
    · exact C6
    clear hK K
    refine take_at 16 (some 73) (.bool false) rfl rfl (by kernel_rfl) (by kernel_rfl) (by kernel_rfl) (fun _ _ _ h => h) (by rfl) (fun W hSw => by go_simp) C6 ?_
    simp only [Act.put, List.setIfInBounds_toArray, List.set_cons_zero, List.set_cons_succ]
    refine take_at 17 (some 74) (.bool false) rfl rfl (by kernel_rfl) (by kernel_rfl) (by kernel_rfl) (fun _ _ _ h => h) (by rfl) (fun W hSw => by go_simp) C6 ?_
    simp only [Act.put, List.setIfInBounds_toArray, List.set_cons_zero, List.set_cons_succ]
    refine take_at 18 (some 75) (.bool false) rfl rfl (by kernel_rfl) (by kernel_rfl) (by kernel_rfl) (fun _ _ _ h => h) (by rfl) (fun W hSw => by go_simp) C6 ?_
    simp only [Act.put, List.setIfInBounds_toArray, List.set_cons_zero, List.set_cons_succ]
    refine take_at 19 (some 76) (.pointer (some ⟨w.heap.size, 1, none⟩)) rfl rfl (by kernel_rfl) (by kernel_rfl) (by kernel_rfl) (fun _ _ _ h => h) (by rfl) (fun W hSw => by go_simp) C6 ?_
    simp only [Act.put, List.setIfInBounds_toArray, List.set_cons_zero, List.set_cons_succ]
    refine take_at 20 (some 77) (tx p2) rfl rfl (by kernel_rfl) (by kernel_rfl) (by kernel_rfl) (fun _ _ _ h => h) (by rfl) (fun W hSw => by have c1 := m1 W hSw; go_simp) C6 ?_
    simp only [Act.put, List.setIfInBounds_toArray, List.set_cons_zero, List.set_cons_succ]
    refine take_at 21 (some 78) (.bool true) rfl rfl (by kernel_rfl) (by kernel_rfl) (by kernel_rfl) (fun _ _ _ h => h) (by rfl) (fun W hSw => by go_simp) C6 ?_
    simp only [Act.put, List.setIfInBounds_toArray, List.set_cons_zero, List.set_cons_succ]
    refine take_at 22 (some 79) (.bool true) rfl rfl (by kernel_rfl) (by kernel_rfl) (by kernel_rfl) (fun _ _ _ h => h) (by rfl) (fun W hSw => by go_simp) C6 ?_
    simp only [Act.put, List.setIfInBounds_toArray, List.set_cons_zero, List.set_cons_succ]
    refine take_at 23 (some 80) (.slice ax K cx) rfl rfl (by kernel_rfl) (by kernel_rfl) (by kernel_rfl) (fun _ _ _ h => h) (by rfl) (fun W hSw => by go_simp) C6 ?_
    simp only [Act.put, List.setIfInBounds_toArray, List.set_cons_zero, List.set_cons_succ]
    refine wpAnyH_ready (rs := [24]) (by kernel_rfl) (by simp) ?_
    refine AllReadyH.cons rfl (fun K hK => ?_) AllReadyH.nil
    go_simp
    refine (hix _ C6).mono ?_
    rintro e w7 ⟨rfl, hb7⟩
    have C7 := Below.chain C6 hb7
    refine hK.out _ _ ?_ (fun _ => ?_)
    · exact C7
    clear hK K
    refine take_at 25 (some 82) (.bool false) rfl rfl (by kernel_rfl) (by kernel_rfl) (by kernel_rfl) (fun _ _ _ h => h) (by rfl) (fun W hSw => by go_simp) C7 ?_
    simp only [Act.put, List.setIfInBounds_toArray, List.set_cons_zero, List.set_cons_succ]
    refine take_at 26 (some 83) (.bool false) rfl rfl (by kernel_rfl) (by kernel_rfl) (by kernel_rfl) (fun _ _ _ h => h) (by rfl) (fun W hSw => by go_simp) C7 ?_
    simp only [Act.put, List.setIfInBounds_toArray, List.set_cons_zero, List.set_cons_succ]
    refine take_at 27 (some 84) (.bool false) rfl rfl (by kernel_rfl) (by kernel_rfl) (by kernel_rfl) (fun _ _ _ h => h) (by rfl) (fun W hSw => by go_simp) C7 ?_
    simp only [Act.put, List.setIfInBounds_toArray, List.set_cons_zero, List.set_cons_succ]
    refine wpAnyH_done (by kernel_rfl) ?_ _
    refine NoPanic.normal ?_
    clear hgx hgg hix hp100 hq100
    go_wp2_with fail
    go_loopw [11] (fun i wr => ∃ j : Nat, j ≤ n ∧ i = .int .i64 j ∧ Below w3.heap.size w3 wr) (fun i _ => n - (intOf i).toNat)
    case atStart => exact ⟨0, by omega, rfl, C7⟩
    case round =>
      obtain ⟨j, hj, rfl, hbr⟩ := hrel
      have BR : Below w.heap.size w wr := Below.chain B3 hbr
      by_cases hlt : j < n
      · obtain ⟨b1, o1, rfl, h1⟩ := hcell (by omega)
        obtain ⟨c10, c11⟩ := h1 j hlt
        have r0 : ∀ W, Below wr.heap.size wr W → W.cell? ⟨b1, o1 + j * 2, none⟩ = some (tx (l.getD j ([], [])).1) := fun W hW => by
          have := Below.chain BR hW
          exact (this.cell (p := ⟨b1, o1 + j * 2, none⟩) (World.block_lt_of_cell? _ _ c10)).trans c10
        have r1 : ∀ W, Below wr.heap.size wr W → W.cell? ⟨b1, o1 + j * 2 + 1, none⟩ = some (tx (l.getD j ([], [])).2) := fun W hW => by
          have := Below.chain BR hW
          exact (this.cell (p := ⟨b1, o1 + j * 2 + 1, none⟩) (World.block_lt_of_cell? _ _ c11)).trans c11
        have m0 : ∀ W, Below wr.heap.size wr W → W.cell? ⟨w.heap.size, 0, none⟩ = some (tx p1) := fun W hW => m0 W (Below.chain hbr hW)
        have hgr := fun (W : World) (hW : Below wr.heap.size wr W) => hgx0 W (Below.chain hbr hW) (l.getD j ([], [])).1
        have HS : Hid _ := hst j hlt
        clear h1 hcell c10 c11 hst hgx0 hw2 hw3 h23 u0 u1 m1
        generalize l.getD j ([], []) = a at *
        obtain ⟨a1, a2⟩ := a
        dsimp only at *
        by_cases hne : a1 = p1
        · have hne' : (a1 == p1) = true := by simpa using hne
          clear hne HS hgr
          go_wp2_with fail
          have D0 : Below wr.heap.size wr wr.drew := (Below.refl _ _).drew
          refine wp_region_noPanic ?_
          refine wp_region_held_drew (S := fun W => Below wr.heap.size wr W) (by kernel_rfl) ?_ (fun _ => ?_)
          · exact D0
          generalize wr.drew = wd2 at *
          refine take_at 0 (some 91) (.slice (some ⟨b1, o1, none⟩) n c) rfl rfl (by kernel_rfl) (by kernel_rfl) (by kernel_rfl) (fun _ _ _ h => h) (by rfl) (fun W hSw => by go_simp) D0 ?_
          simp only [Act.put, List.setIfInBounds_toArray, List.set_cons_zero, List.set_cons_succ]
          refine take_at 1 (some 92) (.int .i64 j) rfl rfl (by kernel_rfl) (by kernel_rfl) (by kernel_rfl) (fun _ _ _ h => h) (by rfl) (fun W hSw => by go_simp) D0 ?_
          simp only [Act.put, List.setIfInBounds_toArray, List.set_cons_zero, List.set_cons_succ]
          refine take_at 2 (some 93) (.pointer (some ⟨b1, o1 + j * 2, none⟩)) rfl rfl (by kernel_rfl) (by kernel_rfl) (by kernel_rfl) (fun _ _ _ h => h) (by rfl) (fun W hSw => by go_simp) D0 ?_
          simp only [Act.put, List.setIfInBounds_toArray, List.set_cons_zero, List.set_cons_succ]
          refine take_at 3 (some 94) (.pointer (some ⟨b1, o1 + j * 2, none⟩)) rfl rfl (by kernel_rfl) (by kernel_rfl) (by kernel_rfl) (fun _ _ _ h => h) (by rfl) (fun W hSw => by go_simp) D0 ?_
          simp only [Act.put, List.setIfInBounds_toArray, List.set_cons_zero, List.set_cons_succ]
          refine take_at 4 (some 95) (tx a1) rfl rfl (by kernel_rfl) (by kernel_rfl) (by kernel_rfl) (fun _ _ _ h => h) (by rfl) (fun W hSw => by have c0 := r0 W hSw; go_simp) D0 ?_
          simp only [Act.put, List.setIfInBounds_toArray, List.set_cons_zero, List.set_cons_succ]
          refine take_at 5 (some 96) (.pointer (some ⟨w.heap.size, 0, none⟩)) rfl rfl (by kernel_rfl) (by kernel_rfl) (by kernel_rfl) (fun _ _ _ h => h) (by rfl) (fun W hSw => by go_simp) D0 ?_
          simp only [Act.put, List.setIfInBounds_toArray, List.set_cons_zero, List.set_cons_succ]
          refine take_at 6 (some 97) (tx p1) rfl rfl (by kernel_rfl) (by kernel_rfl) (by kernel_rfl) (fun _ _ _ h => h) (by rfl) (fun W hSw => by have c0 := m0 W hSw; go_simp) D0 ?_
          simp only [Act.put, List.setIfInBounds_toArray, List.set_cons_zero, List.set_cons_succ]
          refine take_at 7 (some 98) (.bool false) rfl rfl (by kernel_rfl) (by kernel_rfl) (by kernel_rfl) (fun _ _ _ h => h) (by rfl) (fun W hSw => by go_simp) D0 ?_
          simp only [Act.put, List.setIfInBounds_toArray, List.set_cons_zero, List.set_cons_succ]
          refine take_at 8 (some 99) (.bool false) rfl rfl (by kernel_rfl) (by kernel_rfl) (by kernel_rfl) (fun _ _ _ h => h) (by rfl) (fun W hSw => by go_simp) D0 ?_
          simp only [Act.put, List.setIfInBounds_toArray, List.set_cons_zero, List.set_cons_succ]
          refine skip_at 9 (some 100) rfl rfl (by kernel_rfl) (by kernel_rfl) (by kernel_rfl) (fun _ _ _ h => h) (by rfl) D0 ?_
          simp only [Act.put, List.setIfInBounds_toArray, List.set_cons_zero, List.set_cons_succ]
          refine skip_at 10 (some 101) rfl rfl (by kernel_rfl) (by kernel_rfl) (by kernel_rfl) (fun _ _ _ h => h) (by rfl) D0 ?_
          simp only [Act.put, List.setIfInBounds_toArray, List.set_cons_zero, List.set_cons_succ]
          refine skip_at 11 (some 102) rfl rfl (by kernel_rfl) (by kernel_rfl) (by kernel_rfl) (fun _ _ _ h => h) (by rfl) D0 ?_
          simp only [Act.put, List.setIfInBounds_toArray, List.set_cons_zero, List.set_cons_succ]
          refine skip_at 12 (some 103) rfl rfl (by kernel_rfl) (by kernel_rfl) (by kernel_rfl) (fun _ _ _ h => h) (by rfl) D0 ?_
          simp only [Act.put, List.setIfInBounds_toArray, List.set_cons_zero, List.set_cons_succ]
          refine skip_at 13 (some 104) rfl rfl (by kernel_rfl) (by kernel_rfl) (by kernel_rfl) (fun _ _ _ h => h) (by rfl) D0 ?_
          simp only [Act.put, List.setIfInBounds_toArray, List.set_cons_zero, List.set_cons_succ]
          refine skip_at 14 (some 105) rfl rfl (by kernel_rfl) (by kernel_rfl) (by kernel_rfl) (fun _ _ _ h => h) (by rfl) D0 ?_
          simp only [Act.put, List.setIfInBounds_toArray, List.set_cons_zero, List.set_cons_succ]
          refine skip_at 15 (some 106) rfl rfl (by kernel_rfl) (by kernel_rfl) (by kernel_rfl) (fun _ _ _ h => h) (by rfl) D0 ?_
          simp only [Act.put, List.setIfInBounds_toArray, List.set_cons_zero, List.set_cons_succ]
          refine skip_at 16 (some 107) rfl rfl (by kernel_rfl) (by kernel_rfl) (by kernel_rfl) (fun _ _ _ h => h) (by rfl) D0 ?_
          simp only [Act.put, List.setIfInBounds_toArray, List.set_cons_zero, List.set_cons_succ]
          refine skip_at 17 (some 108) rfl rfl (by kernel_rfl) (by kernel_rfl) (by kernel_rfl) (fun _ _ _ h => h) (by rfl) D0 ?_
          simp only [Act.put, List.setIfInBounds_toArray, List.set_cons_zero, List.set_cons_succ]
          refine skip_at 18 (some 109) rfl rfl (by kernel_rfl) (by kernel_rfl) (by kernel_rfl) (fun _ _ _ h => h) (by rfl) D0 ?_
          simp only [Act.put, List.setIfInBounds_toArray, List.set_cons_zero, List.set_cons_succ]
          refine skip_at 19 (some 110) rfl rfl (by kernel_rfl) (by kernel_rfl) (by kernel_rfl) (fun _ _ _ h => h) (by rfl) D0 ?_
          simp only [Act.put, List.setIfInBounds_toArray, List.set_cons_zero, List.set_cons_succ]
          refine skip_at 20 (some 111) rfl rfl (by kernel_rfl) (by kernel_rfl) (by kernel_rfl) (fun _ _ _ h => h) (by rfl) D0 ?_
          simp only [Act.put, List.setIfInBounds_toArray, List.set_cons_zero, List.set_cons_succ]
          refine skip_at 21 (some 112) rfl rfl (by kernel_rfl) (by kernel_rfl) (by kernel_rfl) (fun _ _ _ h => h) (by rfl) D0 ?_
          simp only [Act.put, List.setIfInBounds_toArray, List.set_cons_zero, List.set_cons_succ]
          refine take_at 22 (some 113) (.bool false) rfl rfl (by kernel_rfl) (by kernel_rfl) (by kernel_rfl) (fun _ _ _ h => h) (by rfl) (fun W hSw => by go_simp) D0 ?_
          simp only [Act.put, List.setIfInBounds_toArray, List.set_cons_zero, List.set_cons_succ]
          refine wpAnyH_done (by kernel_rfl) ?_ _
          refine NoPanic.normal ?_
          go_wp2
          go_roundw
          case rel => exact ⟨j + 1, by omega, by go_num, Below.chain hbr D0⟩
          case measure => simp [intOf]; omega
        · have hne' : (a1 == p1) = false := by simpa using hne
          rw [HS.out hne] at hgr
          clear hne HS
          go_wp2_with fail
          have D0 : Below wr.heap.size wr wr.drew := (Below.refl _ _).drew
          refine wp_region_noPanic ?_
          refine wp_region_held_drew (S := fun W => Below wr.heap.size wr W) (by kernel_rfl) ?_ (fun _ => ?_)
          · exact D0
          generalize wr.drew = wd2 at *
          refine take_at 0 (some 91) (.slice (some ⟨b1, o1, none⟩) n c) rfl rfl (by kernel_rfl) (by kernel_rfl) (by kernel_rfl) (fun _ _ _ h => h) (by rfl) (fun W hSw => by go_simp) D0 ?_
          simp only [Act.put, List.setIfInBounds_toArray, List.set_cons_zero, List.set_cons_succ]
          refine take_at 1 (some 92) (.int .i64 j) rfl rfl (by kernel_rfl) (by kernel_rfl) (by kernel_rfl) (fun _ _ _ h => h) (by rfl) (fun W hSw => by go_simp) D0 ?_
          simp only [Act.put, List.setIfInBounds_toArray, List.set_cons_zero, List.set_cons_succ]
          refine take_at 2 (some 93) (.pointer (some ⟨b1, o1 + j * 2, none⟩)) rfl rfl (by kernel_rfl) (by kernel_rfl) (by kernel_rfl) (fun _ _ _ h => h) (by rfl) (fun W hSw => by go_simp) D0 ?_
          simp only [Act.put, List.setIfInBounds_toArray, List.set_cons_zero, List.set_cons_succ]
          refine take_at 3 (some 94) (.pointer (some ⟨b1, o1 + j * 2, none⟩)) rfl rfl (by kernel_rfl) (by kernel_rfl) (by kernel_rfl) (fun _ _ _ h => h) (by rfl) (fun W hSw => by go_simp) D0 ?_
          simp only [Act.put, List.setIfInBounds_toArray, List.set_cons_zero, List.set_cons_succ]
          refine take_at 4 (some 95) (tx a1) rfl rfl (by kernel_rfl) (by kernel_rfl) (by kernel_rfl) (fun _ _ _ h => h) (by rfl) (fun W hSw => by have c0 := r0 W hSw; go_simp) D0 ?_
          simp only [Act.put, List.setIfInBounds_toArray, List.set_cons_zero, List.set_cons_succ]
          refine take_at 5 (some 96) (.pointer (some ⟨w.heap.size, 0, none⟩)) rfl rfl (by kernel_rfl) (by kernel_rfl) (by kernel_rfl) (fun _ _ _ h => h) (by rfl) (fun W hSw => by go_simp) D0 ?_
          simp only [Act.put, List.setIfInBounds_toArray, List.set_cons_zero, List.set_cons_succ]
          refine take_at 6 (some 97) (tx p1) rfl rfl (by kernel_rfl) (by kernel_rfl) (by kernel_rfl) (fun _ _ _ h => h) (by rfl) (fun W hSw => by have c0 := m0 W hSw; go_simp) D0 ?_
          simp only [Act.put, List.setIfInBounds_toArray, List.set_cons_zero, List.set_cons_succ]
          refine take_at 7 (some 98) (.bool true) rfl rfl (by kernel_rfl) (by kernel_rfl) (by kernel_rfl) (fun _ _ _ h => h) (by rfl) (fun W hSw => by go_simp) D0 ?_
          simp only [Act.put, List.setIfInBounds_toArray, List.set_cons_zero, List.set_cons_succ]
          refine take_at 8 (some 99) (.bool true) rfl rfl (by kernel_rfl) (by kernel_rfl) (by kernel_rfl) (fun _ _ _ h => h) (by rfl) (fun W hSw => by go_simp) D0 ?_
          simp only [Act.put, List.setIfInBounds_toArray, List.set_cons_zero, List.set_cons_succ]
          refine take_at 9 (some 100) (.slice ax K cx) rfl rfl (by kernel_rfl) (by kernel_rfl) (by kernel_rfl) (fun _ _ _ h => h) (by rfl) (fun W hSw => by go_simp) D0 ?_
          simp only [Act.put, List.setIfInBounds_toArray, List.set_cons_zero, List.set_cons_succ]
          refine take_at 10 (some 101) (.slice (some ⟨b1, o1, none⟩) n c) rfl rfl (by kernel_rfl) (by kernel_rfl) (by kernel_rfl) (fun _ _ _ h => h) (by rfl) (fun W hSw => by go_simp) D0 ?_
          simp only [Act.put, List.setIfInBounds_toArray, List.set_cons_zero, List.set_cons_succ]
          refine take_at 11 (some 102) (.int .i64 j) rfl rfl (by kernel_rfl) (by kernel_rfl) (by kernel_rfl) (fun _ _ _ h => h) (by rfl) (fun W hSw => by go_simp) D0 ?_
          simp only [Act.put, List.setIfInBounds_toArray, List.set_cons_zero, List.set_cons_succ]
          refine take_at 12 (some 103) (.pointer (some ⟨b1, o1 + j * 2, none⟩)) rfl rfl (by kernel_rfl) (by kernel_rfl) (by kernel_rfl) (fun _ _ _ h => h) (by rfl) (fun W hSw => by go_simp) D0 ?_
          simp only [Act.put, List.setIfInBounds_toArray, List.set_cons_zero, List.set_cons_succ]
          refine take_at 13 (some 104) (.pointer (some ⟨b1, o1 + j * 2, none⟩)) rfl rfl (by kernel_rfl) (by kernel_rfl) (by kernel_rfl) (fun _ _ _ h => h) (by rfl) (fun W hSw => by go_simp) D0 ?_
          simp only [Act.put, List.setIfInBounds_toArray, List.set_cons_zero, List.set_cons_succ]
          refine take_at 14 (some 105) (tx a1) rfl rfl (by kernel_rfl) (by kernel_rfl) (by kernel_rfl) (fun _ _ _ h => h) (by rfl) (fun W hSw => by have c0 := r0 W hSw; go_simp) D0 ?_
          simp only [Act.put, List.setIfInBounds_toArray, List.set_cons_zero, List.set_cons_succ]
          refine take_at 16 (some 107) (.slice (some ⟨b1, o1, none⟩) n c) rfl rfl (by kernel_rfl) (by kernel_rfl) (by kernel_rfl) (fun _ _ _ h => h) (by rfl) (fun W hSw => by go_simp) D0 ?_
          simp only [Act.put, List.setIfInBounds_toArray, List.set_cons_zero, List.set_cons_succ]
          refine take_at 17 (some 108) (.int .i64 j) rfl rfl (by kernel_rfl) (by kernel_rfl) (by kernel_rfl) (fun _ _ _ h => h) (by rfl) (fun W hSw => by go_simp) D0 ?_
          simp only [Act.put, List.setIfInBounds_toArray, List.set_cons_zero, List.set_cons_succ]
          refine take_at 18 (some 109) (.pointer (some ⟨b1, o1 + j * 2, none⟩)) rfl rfl (by kernel_rfl) (by kernel_rfl) (by kernel_rfl) (fun _ _ _ h => h) (by rfl) (fun W hSw => by go_simp) D0 ?_
          simp only [Act.put, List.setIfInBounds_toArray, List.set_cons_zero, List.set_cons_succ]
          refine take_at 19 (some 110) (.pointer (some ⟨b1, o1 + j * 2 + 1, none⟩)) rfl rfl (by kernel_rfl) (by kernel_rfl) (by kernel_rfl) (fun _ _ _ h => h) (by rfl) (fun W hSw => by go_simp) D0 ?_
          simp only [Act.put, List.setIfInBounds_toArray, List.set_cons_zero, List.set_cons_succ]
          refine take_at 20 (some 111) (tx a2) rfl rfl (by kernel_rfl) (by kernel_rfl) (by kernel_rfl) (fun _ _ _ h => h) (by rfl) (fun W hSw => by have c1 := r1 W hSw; go_simp) D0 ?_
          simp only [Act.put, List.setIfInBounds_toArray, List.set_cons_zero, List.set_cons_succ]
          refine wpAnyH_ready (rs := [15]) (by kernel_rfl) (by simp) ?_
          refine AllReadyH.cons rfl (fun K hK => ?_) AllReadyH.nil
          go_simp
          refine (hgr _ D0).mono ?_
          rintro e w8 ⟨rfl, hb8⟩
          have D8 := Below.chain D0 hb8
          refine hK.out _ _ ?_ (fun _ => ?_)
          · exact D8
          clear hK K
          refine take_at 21 (some 112) (.bool false) rfl rfl (by kernel_rfl) (by kernel_rfl) (by kernel_rfl) (fun _ _ _ h => h) (by rfl) (fun W hSw => by go_simp) D8 ?_
          simp only [Act.put, List.setIfInBounds_toArray, List.set_cons_zero, List.set_cons_succ]
          refine take_at 22 (some 113) (.bool false) rfl rfl (by kernel_rfl) (by kernel_rfl) (by kernel_rfl) (fun _ _ _ h => h) (by rfl) (fun W hSw => by go_simp) D8 ?_
          simp only [Act.put, List.setIfInBounds_toArray, List.set_cons_zero, List.set_cons_succ]
          refine wpAnyH_done (by kernel_rfl) ?_ _
          refine NoPanic.normal ?_
          go_wp2
          go_roundw
          case rel => exact ⟨j + 1, by omega, by go_num, Below.chain hbr D8⟩
          case measure => simp [intOf]; omega
      · have k0 := m0 wr hbr
        have k1 := m1 wr hbr
        have l0 := u0 wr hbr
        have l1 := u1 wr hbr
        clear hcell hst hgx0
        go_wp2_with fail
        refine (hw2 wr BR).mono ?_
        rintro e w5 ⟨v5, rfl, ho5, hb5⟩
        have hb5' := Below.chain (bal (Below.refl _ wr) (.cells #[tx p1, tx p2, tx q1, tx q2] 35)) hb5
        have Q5 := Below.chain hbr hb5'
        have B5 := Below.chain BR hb5'
        clear k0 k1 l0 l1 hw2 hb5
        have k0 := m0 w5 Q5
        have k1 := m1 w5 Q5
        have l0 := u0 w5 Q5
        have l1 := u1 w5 Q5
        by_cases hpq : p1 = q1
        · have hpq' : (p1 == q1) = true := by simpa using hpq
          clear hpq h23 ho5
          go_wp2_with fail
          refine (hw3 w5 B5).mono ?_
          rintro e w6 ⟨v6, rfl, _, hb6⟩
          have hb6' := Below.chain (bal (Below.refl _ w5) (.cells #[tx q1, tx q2, tx p1, tx p2] 35)) hb6
          have Q6 := Below.chain Q5 hb6'
          have B6 := Below.chain B5 hb6'
          clear k0 k1 l0 l1 hw3 hb6
          have k0 := m0 w6 Q6
          have l0 := u0 w6 Q6
          go_wp2_with fail
          go_ret
          exact ⟨rfl, B6⟩
        · obtain ⟨e23, l23⟩ := h23 hpq
          rw [← e23, ← l23] at hw3
          have hpq' : (p1 == q1) = false := by simpa using hpq
          clear hpq h23 e23 l23
          obtain ⟨KY, hKY⟩ : ∃ q, Y.length = q := ⟨_, rfl⟩
          rw [hKY] at n2
          have HKY : Hid _ := hKY
          clear hKY
          obtain ⟨ay, cy, rfl, hpy⟩ := ho5.slice5 HKY.out
          clear ho5
          go_wp2_with fail
          refine (hw3 w5 B5).mono ?_
          rintro e w6 ⟨v6, rfl, ho6, hb6⟩
          have hb6' := Below.chain (bal (Below.refl _ w5) (.cells #[tx q1, tx q2, tx p1, tx p2] 35)) hb6
          have Q6 := Below.chain Q5 hb6'
          have B6 := Below.chain B5 hb6'
          obtain ⟨az, cz, rfl, hpz⟩ := ho6.slice5 HKY.out
          have hsm := same_w ay KY cy Y az KY cz Y w6 (by omega) (by omega) (hpy.later hb6') hpz
          rw [sameB_self] at hsm
          clear k0 k1 l0 l1 hw3 hb6 ho6 hpy hpz
          have k0 := m0 w6 Q6
          have l0 := u0 w6 Q6
          go_wp2_with fail
          refine hsm.mono ?_
          rintro e w7 ⟨rfl, hb7⟩
          go_wp2_with fail
          go_ret
          exact ⟨rfl, Below.chain B6 hb7⟩

set_option maxRecDepth 200000 in
set_option maxHeartbeats 4000000 in
theorem with_walk (xa : Option Addr) (n c : Nat) (l : List Pr) (p q : Pr) (w : World) (hn : n ≤ 9223372036854775807) (hpf : p.1.length ≤ 9223372036854775807 ∧ p.2.length ≤ 9223372036854775807) (hqf : q.1.length ≤ 9223372036854775807 ∧ q.2.length ≤ 9223372036854775807) (hf : Fit l) (hx : Ps w xa n l) (hM : Mx w) :
    Calls Tryd.prog 5 #[.slice xa n c, .agg #[tx p.1, tx p.2], .agg #[tx q.1, tx q.2]] w fun e w' => e = .returned (.bool true) ∧ Below w.heap.size w w' := by
  obtain ⟨p1, p2⟩ := p
  obtain ⟨q1, q2⟩ := q
  have hknown := fun (W : World) (hW : Below w.heap.size w W) => known_any W (hM.later hW)
  have hga := fun (W : World) (hW : Below w.heap.size w W) => big_any xa n c l W hn hf (hx.later hW)
  have hia := fun (W : World) (hW : Below w.heap.size w W) => is_any xa n c l W hn hf (hx.later hW)
  have bx0 : Below w.heap.size w ((w.alloc (.cells #[tx p1, tx p2] 35)).alloc (.cells #[tx q1, tx q2] 35)) := bal (bal (Below.refl _ _) _) _
  have xp := (Box.new w (p1, p2)).later (bal (Below.refl _ _) (.cells #[tx q1, tx q2] 35))
  have xq := Box.new (w.alloc (.cells #[tx p1, tx p2] 35)) (q1, q2)
  have hsz : (w.alloc (.cells #[tx p1, tx p2] 35)).heap.size = w.heap.size + 1 := by simp
  rw [hsz] at xq
  clear hsz
  cases bl : bigB l with
  | true =>
    rw [bl] at hga
    clear bl hia
    go_enter Tryd.func5, Tryd.ntmps5
    go_wp2_with fail
    refine (hknown _ bx0).mono ?_
    rintro e w0 ⟨rfl, hb0⟩
    have B0 := Below.chain bx0 hb0
    clear xp xq hb0 bx0 hknown
    go_wp2_with fail
    refine (hga _ B0).mono ?_
    rintro e w' ⟨rfl, rfl⟩
    go_wp2_with fail
    go_ret
    exact ⟨rfl, B0⟩
  | false =>
    cases il : fIs l with
    | false =>
      rw [bl] at hga
      rw [il] at hia
      clear bl il
      go_enter Tryd.func5, Tryd.ntmps5
      go_wp2_with fail
      refine (hknown _ bx0).mono ?_
      rintro e w0 ⟨rfl, hb0⟩
      have B0 := Below.chain bx0 hb0
      clear xp xq hb0 bx0 hknown
      go_wp2_with fail
      refine (hga _ B0).mono ?_
      rintro e w' ⟨rfl, rfl⟩
      go_wp2_with fail
      refine (hia _ B0).mono ?_
      rintro e w1 ⟨rfl, hb1⟩
      have B1 := Below.chain B0 hb1
      clear hga hia hb1 B0
      go_wp2_with fail
      go_ret
      exact ⟨rfl, B1⟩
    | true =>
      have hn20 : n ≤ 20 := by rw [← hx.1]; exact (big_not bl).1
      by_cases hp2 : p2.length ≤ 100
      · by_cases hq2 : q2.length ≤ 100
        · rcases withE_cases l [(p1, p2)] with hE | hE
          · exact with_core xa n c l p1 p2 q1 q2 w hn20 hf hpf hqf hx hM bl il hp2 hq2 hE
          · have hw1 := fun (W : World) (hW : Below w.heap.size w W) => with_any xa n c l (some ⟨W.heap.size, 0, none⟩) 1 1 [(p1, p2)] (W.alloc (.cells #[tx p1, tx p2] 35)) (by omega) (by decide) hf (fit_one hpf) (hx.later (bal hW _)) (Ps.one W (p1, p2))
            rw [hE] at hw1
            rw [bl] at hga
            rw [il] at hia
            have hp100 : ¬ (100 : Int) < p2.length := by omega
            have hq100 : ¬ (100 : Int) < q2.length := by omega
            clear bl il hE hp2 hq2 hpf hqf
            go_enter Tryd.func5, Tryd.ntmps5
            go_wp2_with fail
            refine (hknown _ bx0).mono ?_
            rintro e w0 ⟨rfl, hb0⟩
            have B0 := Below.chain bx0 hb0
            have xp0 := xp.later hb0
            have xq0 := xq.later hb0
            clear xp xq hb0 bx0 hknown
            go_wp2_with fail
            refine (hga _ B0).mono ?_
            rintro e w' ⟨rfl, rfl⟩
            go_wp2_with fail
            refine (hia _ B0).mono ?_
            rintro e w1 ⟨rfl, hb1⟩
            have B1 := Below.chain B0 hb1
            have yp := xp0.later hb1
            have yq := xq0.later hb1
            clear hga hia xp0 xq0 B0 hb1
            obtain ⟨s0, s1, _, _⟩ := id yp
            obtain ⟨_, t1, _, _⟩ := id yq
            go_wp2_with fail
            refine (hw1 _ B1).mono ?_
            rintro e w2 ⟨v2, rfl, _, hb2⟩
            have hb2' := Below.chain (bal (Below.refl _ w1) (.cells #[tx p1, tx p2] 35)) hb2
            have B2 := Below.chain B1 hb2'
            clear hw1 hb2 hb2' B1 s0 s1 t1 yp yq
            go_wp2_with fail
            go_ret
            exact ⟨rfl, B2⟩
        · rw [bl] at hga
          rw [il] at hia
          have hp100 : ¬ (100 : Int) < p2.length := by omega
          have hq100 : (100 : Int) < q2.length := by omega
          clear bl il hp2 hq2 hpf hqf
          go_enter Tryd.func5, Tryd.ntmps5
          go_wp2_with fail
          refine (hknown _ bx0).mono ?_
          rintro e w0 ⟨rfl, hb0⟩
          have B0 := Below.chain bx0 hb0
          have xp0 := xp.later hb0
          have xq0 := xq.later hb0
          clear xp xq hb0 bx0 hknown
          go_wp2_with fail
          refine (hga _ B0).mono ?_
          rintro e w' ⟨rfl, rfl⟩
          go_wp2_with fail
          refine (hia _ B0).mono ?_
          rintro e w1 ⟨rfl, hb1⟩
          have B1 := Below.chain B0 hb1
          have yp := xp0.later hb1
          have yq := xq0.later hb1
          clear hga hia xp0 xq0 B0 hb1
          obtain ⟨_, s1, _, _⟩ := id yp
          obtain ⟨_, t1, _, _⟩ := id yq
          go_wp2_with fail
          go_ret
          exact ⟨rfl, B1⟩
      · rw [bl] at hga
        rw [il] at hia
        have hp100 : (100 : Int) < p2.length := by omega
        clear bl il hp2 hpf hqf
        go_enter Tryd.func5, Tryd.ntmps5
        go_wp2_with fail
        refine (hknown _ bx0).mono ?_
        rintro e w0 ⟨rfl, hb0⟩
        have B0 := Below.chain bx0 hb0
        have xp0 := xp.later hb0
        have xq0 := xq.later hb0
        clear xp xq hb0 bx0 hknown
        go_wp2_with fail
        refine (hga _ B0).mono ?_
        rintro e w' ⟨rfl, rfl⟩
        go_wp2_with fail
        refine (hia _ B0).mono ?_
        rintro e w1 ⟨rfl, hb1⟩
        have B1 := Below.chain B0 hb1
        have yp := xp0.later hb1
        have yq := xq0.later hb1
        clear hga hia xp0 xq0 B0 hb1
        obtain ⟨_, s1, _, _⟩ := id yp
        go_wp2_with fail
        go_ret
        exact ⟨rfl, B1⟩
end Go.Proofs.YtmhpmlfpflkgbaaDoor
