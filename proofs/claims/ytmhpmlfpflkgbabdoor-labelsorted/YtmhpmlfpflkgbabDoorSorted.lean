/- LabelSorted: the walk. -/
import Derived.Test.YtmhpmlfpflkgbabDoorSlice2
namespace Go.Proofs.YtmhpmlfpflkgbabDoor
open Go.RowKit

theorem twice_perm {l m : List Pr} (hp : m.Perm l) : twice m = twice l := by
  unfold twice
  congr 1
  exact decide_eq_decide.2 (hp.map (·.1)).nodup_iff
theorem make_same {l m : List Pr} (hp : m.Perm l) : makeE m = makeE l ∧ makeL m = makeL l := by
  have ht := twice_perm hp
  by_cases h : twice l = true
  · have e1 : makeE m = 31 := by unfold makeE; rw [ht, if_pos h]
    have e2 : makeE l = 31 := by unfold makeE; rw [if_pos h]
    exact ⟨by rw [e1, e2], by unfold makeL; rw [e1, e2]; rfl⟩
  · have hn : (l.map (·.1)).Nodup := by unfold twice at h; simpa using h
    have hf : (full m).Perm (full l) := hp.filter _
    have hnl : ((srt (full l)).map (·.1)).Nodup := ((srt_perm _).map (·.1)).nodup_iff.2 (nodup_filter hn _)
    have hr : rises (srt (full l)) := sorted_rises (srt_sorted _) hnl
    have hs : srt (full m) = srt (full l) := srt_of ((srt_perm _).trans hf.symm) hr
    have e : makeE m = makeE l := by unfold makeE; rw [ht, hs]
    exact ⟨e, by unfold makeL; rw [e, hs]⟩
theorem make_get {l : List Pr} (h : makeE l = 0) {p : Pr} (hp : p ∈ l) : fGet (makeL l) p.1 = p.2 := by
  have ht : ¬ twice l = true := fun h' => by unfold makeE at h; rw [if_pos h'] at h; omega
  have hn : (l.map (·.1)).Nodup := by unfold twice at ht; simpa using ht
  unfold makeL
  rw [if_pos h]
  have hns : ((srt (full l)).map (·.1)).Nodup := ((srt_perm _).map (·.1)).nodup_iff.2 (nodup_filter hn _)
  by_cases hv : p.2 = []
  · rw [hv]
    refine get_none fun q hq e => ?_
    obtain ⟨h1, h2⟩ := List.mem_filter.1 ((srt_perm _).mem_iff.1 hq)
    have := inj_name hn h1 hp e
    rw [this, hv] at h2
    simp at h2
  · exact get_of_mem hns ((srt_perm _).mem_iff.2 (List.mem_filter.2 ⟨hp, by simpa using hv⟩))
theorem own_of {w : World} {base m : Nat} {v : Value} {l : List Pr} (h : w.ownsRow base 31 2 v (0 + m) ([] ++ cellsP l)) (hl : l.length = m) : Own w base v l := by
  unfold Own
  rw [hl]
  simpa using h
theorem own_app {w : World} {base m : Nat} {v : Value} {l k : List Pr} (h : w.ownsRow base 31 2 v (l.length + m) (cellsP l ++ cellsP k)) (hl : k.length = m) : Own w base v (l ++ k) := by
  unfold Own
  rw [cellsP_append, List.length_append, hl]
  exact h

set_option maxRecDepth 20000 in
set_option maxHeartbeats 1000000 in
theorem sorted_core (ad : Addr) (n c : Nat) (l : List Pr) (k tu : Nat) (w : World) (hn : n ≤ 20) (hn0 : 0 < n) (htu : tu ≤ 255) (hk : k < n) (hkk : (tu : Int) % (n : Int) = (k : Int)) (hf : Fit l) (hx : Ps w (some ad) n l) (hcap : n ≤ c) (hM : Mx w) (bl : bigB l = false) :
    Calls Tryd.prog 3 #[.slice (some ad) n c, .int .u8 tu] w fun e w' => e = .returned (.bool true) ∧ Below w.heap.size w w' := by
  obtain ⟨i0, hi, hz0, hz1, hz2⟩ := info_parts35
  have hn' : n ≤ 9223372036854775807 := Nat.le_trans hn (by decide)
  have hknown := known_any w hM
  have hga := fun (W : World) (hW : Below w.heap.size w W) => big_any (some ad) n c l W hn' hf (hx.later hW)
  rw [bl] at hga
  have hlen := hx.1
  have hmk1 := fun (W : World) (hW : Below w.heap.size w W) => make_any (some ad) n c l W (by omega) hf (hx.later hW)
  have hdl : (l.drop k).length = n - k := by simp; omega
  have htl : (l.take k).length = k := by simp; omega
  have hpm : (l.drop k ++ l.take k).Perm l := List.perm_append_comm.trans (by rw [List.take_append_drop])
  have hll : (l.drop k ++ l.take k).length = n := by rw [List.length_append, hdl, htl]; omega
  have hmk2 := fun (W : World) (xa : Option Addr) (d : Nat) (h : Ps W xa (l.drop k ++ l.take k).length (l.drop k ++ l.take k)) => make_any xa (l.drop k ++ l.take k).length d (l.drop k ++ l.take k) W (by omega) (Fit.perm hf hpm) h
  rw [(make_same hpm).1, (make_same hpm).2] at hmk2
  have hget := fun h p (hp : p ∈ l) => make_get (l := l) h (p := p) hp
  have hmi := make_is (l := l)
  have hml := make_len l
  have hmf := make_fit hf
  have hmem : ∀ j, j < n → l.getD j ([], []) ∈ l := fun j hj => by rw [getD_at (by omega)]; exact List.getElem_mem _
  obtain ⟨R, hR⟩ : ∃ R, R = l.drop k ++ l.take k := ⟨_, rfl⟩
  rw [← hR] at hmk2 hpm
  clear hll
  have HR : Hid _ := hR
  clear hR
  obtain ⟨at1, hat1⟩ : ∃ x, cutA (some ad) c k = some x := by unfold cutA; split <;> exact ⟨_, rfl⟩
  obtain ⟨at2, hat2⟩ : ∃ x, cutA (some ad) c 0 = some x := by unfold cutA; split <;> exact ⟨_, rfl⟩
  have hcb := fun W => cut_back (some ad) n c k (by omega) W
  have hcf := fun W => cut_front (some ad) n c k (by omega) W
  have hpt := hx.tail hcap k (by omega)
  have hph := hx.head hcap k (by omega)
  rw [hat1] at hcb hpt
  rw [hat2] at hcf hph
  have hcase : makeE l = 0 ∨ (makeE l = 31 ∨ makeE l = 30) := by
    unfold makeE
    split
    · simp
    · split <;> simp
  have hsm := fun (W : World) (xa ya : Option Addr) (d e : Nat) (k1 : Ps W xa (makeL l).length (makeL l)) (k2 : Ps W ya (makeL l).length (makeL l)) => same_any xa (makeL l).length d (makeL l) ya (makeL l).length e (makeL l) W (by omega) (by omega) k1 k2
  have hst : sameB (makeL l) (makeL l) = true := by unfold sameB; simp
  rw [hst] at hsm
  have his := fun (W : World) (xa : Option Addr) (d : Nat) (k1 : Ps W xa (makeL l).length (makeL l)) => is_any xa (makeL l).length d (makeL l) W (by omega) hmf k1
  have hgt0 := fun (W : World) (xa : Option Addr) (d : Nat) (s : Str) (k1 : Ps W xa (makeL l).length (makeL l)) => get_any xa (makeL l).length d (makeL l) s W (by omega) k1
  obtain ⟨_, hcell⟩ := id hx
  have HX := hx
  generalize hq : makeL l = q at *
  generalize hE : makeE l = E at *
  clear hq hE hst bl hat1 hat2 hpm hf
  go_enter Tryd.func3, Tryd.ntmps3
  go_wp2_with fail
  refine hknown.mono ?_
  rintro e w0 ⟨rfl, hb0⟩
  go_wp2_with fail
  refine (hga _ hb0).mono ?_
  rintro e w' ⟨rfl, rfl⟩
  have hn1 : ((n : Int) == 0) = false := by rw [beq_eq_false_iff_ne]; omega
  go_wp2_with fail
  refine (hmk1 _ hb0).mono ?_
  rintro e w2 ⟨v2, rfl, ho2, hb2⟩
  obtain ⟨a2, c2, rfl, k2⟩ := ho2.fitN
  have B02 := Below.chain hb0 hb2
  have h3t := hpt.later B02
  have h3h := hph.later B02
  clear hknown hga hmk1 hb0 hb2 ho2
  go_wp2_with fail
  have D3 : Below w2.heap.size w2 w2.drew := (Below.refl _ _).drew
  have h4t := h3t.later D3
  have h4h := h3h.later D3
  refine wp_region_noPanic ?_
  refine wp_region_held_drew (S := fun _ => True) (by kernel_rfl) ?_ (fun _ => ?_)
  · exact trivial
  generalize w2.drew = w3 at *
  refine take_at 0 (some 31) (.slice (some ad) n c) rfl rfl (by kernel_rfl) (by kernel_rfl) (by kernel_rfl) (fun _ _ _ h => h) (by rfl) (fun W hSw => by go_simp) trivial ?_
  simp only [Act.put, List.setIfInBounds_toArray, List.set_cons_zero, List.set_cons_succ]
  refine take_at 1 (some 32) (.int .i64 k) rfl rfl (by kernel_rfl) (by kernel_rfl) (by kernel_rfl) (fun _ _ _ h => h) (by rfl) (fun W hSw => by go_simp) trivial ?_
  simp only [Act.put, List.setIfInBounds_toArray, List.set_cons_zero, List.set_cons_succ]
  refine take_at 2 (some 33) (.slice (some at1) (n - k) (c - k)) rfl rfl (by kernel_rfl) (by kernel_rfl) (by kernel_rfl) (fun _ _ _ h => h) (by rfl) (fun W hSw => by go_simp) trivial ?_
  simp only [Act.put, List.setIfInBounds_toArray, List.set_cons_zero, List.set_cons_succ]
  refine take_at 4 (some 35) (.slice (some ad) n c) rfl rfl (by kernel_rfl) (by kernel_rfl) (by kernel_rfl) (fun _ _ _ h => h) (by rfl) (fun W hSw => by go_simp) trivial ?_
  simp only [Act.put, List.setIfInBounds_toArray, List.set_cons_zero, List.set_cons_succ]
  refine take_at 5 (some 36) (.int .i64 k) rfl rfl (by kernel_rfl) (by kernel_rfl) (by kernel_rfl) (fun _ _ _ h => h) (by rfl) (fun W hSw => by go_simp) trivial ?_
  simp only [Act.put, List.setIfInBounds_toArray, List.set_cons_zero, List.set_cons_succ]
  refine take_at 6 (some 37) (.slice (some at2) k c) rfl rfl (by kernel_rfl) (by kernel_rfl) (by kernel_rfl) (fun _ _ _ h => h) (by rfl) (fun W hSw => by go_simp) trivial ?_
  simp only [Act.put, List.setIfInBounds_toArray, List.set_cons_zero, List.set_cons_succ]
  refine wpAnyH_ready (rs := [3]) (by kernel_rfl) (by simp) ?_
  refine AllReadyH.cons rfl (fun K hK => ?_) AllReadyH.nil
  refine step_append _ _ (some 34) 22 rfl rfl (by rfl) w3.heap.size 31 i0 (.agg #[tx [], tx []]) 2 32 Tryd.underlying22 hi hz0 hz1 hz2 zero35 (by decide) (.slice none 0 0) 0 [] rfl (World.ownsRow_nil w3 w3.heap.size 31 2) at1 (n - k) (c - k) (cellsP (l.drop k)) rfl (by rw [cellsP_length, hdl]) ?_ (cellsP_one _) (by unfold maxLen; omega) (by omega) (Nat.le_refl _) ?_
  · exact h4t.cells
  intro v4 w4 ho4 hg4
  have B4 : Below w3.heap.size w3 w4 := (Below.refl _ _).grown hg4 (Nat.le_refl _) (fun k hk => by cases hk)
  have ho4' : Own w4 w3.heap.size v4 (l.drop k) := own_of ho4 hdl
  refine hK.out _ _ ?_ (fun _ => ?_)
  · exact trivial
  clear hK K
  refine wpAnyH_ready (rs := [7]) (by kernel_rfl) (by simp) ?_
  refine AllReadyH.cons rfl (fun K hK => ?_) AllReadyH.nil
  refine step_append _ _ (some 38) 22 rfl rfl (by rfl) w3.heap.size 31 i0 (.agg #[tx [], tx []]) 2 32 Tryd.underlying22 hi hz0 hz1 hz2 zero35 (by decide) v4 (l.drop k).length (cellsP (l.drop k)) rfl ho4' at2 k c (cellsP (l.take k)) rfl (by rw [cellsP_length, htl]) ?_ (cellsP_one _) (by rw [hdl]; unfold maxLen; omega) (by rw [hdl]; omega) B4.size ?_
  · exact (h4h.later B4).cells
  intro v5 w5 ho5 hg5
  have B5 : Below w3.heap.size w3 w5 := B4.grown hg5 B4.size (fun k hk => (World.ownsRow.lt ho4' k hk).1)
  have ho5' : Own w5 w3.heap.size v5 R := by rw [HR.out]; exact own_app ho5 htl
  refine hK.out _ _ ?_ (fun _ => ?_)
  · exact trivial
  clear hK K
  refine wpAnyH_ready (rs := [8]) (by kernel_rfl) (by simp) ?_
  refine AllReadyH.cons rfl (fun K hK => ?_) AllReadyH.nil
  obtain ⟨b5, c5, rfl, hps5⟩ := ho5'.fitN
  go_simp
  refine (hmk2 w5 b5 c5 hps5).mono ?_
  rintro e w6 ⟨v6, rfl, ho6, hb6⟩
  have B6 := Below.chain B5 hb6
  refine hK.out _ _ ?_ (fun _ => ?_)
  · exact trivial
  clear hK K
  refine take_at 9 (some 30) (.tuple #[v6, .int .i64 E]) rfl rfl (by kernel_rfl) (by kernel_rfl) (by kernel_rfl) (fun _ _ _ h => h) (by rfl) (fun W hSw => by go_simp) trivial ?_
  simp only [Act.put, List.setIfInBounds_toArray, List.set_cons_zero, List.set_cons_succ]
  refine take_at 10 (some 40) (v6) rfl rfl (by kernel_rfl) (by kernel_rfl) (by kernel_rfl) (fun _ _ _ h => h) (by rfl) (fun W hSw => by go_simp) trivial ?_
  simp only [Act.put, List.setIfInBounds_toArray, List.set_cons_zero, List.set_cons_succ]
  refine take_at 11 (some 41) (.int .i64 E) rfl rfl (by kernel_rfl) (by kernel_rfl) (by kernel_rfl) (fun _ _ _ h => h) (by rfl) (fun W hSw => by go_simp) trivial ?_
  simp only [Act.put, List.setIfInBounds_toArray, List.set_cons_zero, List.set_cons_succ]
  refine take_at 12 (some 8) (v6) rfl rfl (by kernel_rfl) (by kernel_rfl) (by kernel_rfl) (fun _ _ _ h => h) (by rfl) (fun W hSw => by go_simp) trivial ?_
  simp only [Act.put, List.setIfInBounds_toArray, List.set_cons_zero, List.set_cons_succ]
  refine take_at 13 (some 9) (.int .i64 E) rfl rfl (by kernel_rfl) (by kernel_rfl) (by kernel_rfl) (fun _ _ _ h => h) (by rfl) (fun W hSw => by go_simp) trivial ?_
  simp only [Act.put, List.setIfInBounds_toArray, List.set_cons_zero, List.set_cons_succ]
  refine wpAnyH_done (by kernel_rfl) ?_ _
  refine NoPanic.normal ?_
  have B06 : Below w.heap.size w w6 := Below.chain (Below.chain B02 D3) B6
  have k6 := (k2.later D3).later B6
  obtain ⟨a6, c6, rfl, m6⟩ := ho6.fitN
  clear hmk2 hpt hph h3t h3h h4t h4h hcb hcf B02 D3 B4 B5 hb6 ho4 ho4' ho5 ho5' ho6 hg4 hg5 hps5
  have hEE : (E != E) = false := by simp
  have hsm6 := hsm w6 a2 a6 c2 c6 k6 m6
  go_wp2_with fail
  refine hsm6.mono ?_
  rintro e w7 ⟨rfl, kd, rfl⟩
  have B07 : Below w.heap.size w (w6.drewN kd) := below_drewN B06 kd
  have D7 : Below w6.heap.size w6 (w6.drewN kd) := below_drewN (Below.refl _ _) kd
  have k7 := k6.later D7
  clear hsm hsm6 B06 k2 k6 m6
  generalize w6.drewN kd = w7 at *
  rcases hcase with rfl | hne
  · have hI := hmi rfl
    rw [hI] at his
    clear hI hmi
    go_wp2_with fail
    go_loopw [10] (fun i wr => ∃ j : Nat, j ≤ n ∧ i = .int .i64 j ∧ Below w7.heap.size w7 wr) (fun i _ => n - (intOf i).toNat)
    case atStart => exact ⟨0, by omega, rfl, Below.refl _ _⟩
    case round =>
      obtain ⟨j, hj, rfl, hbr⟩ := hrel
      have B0r : Below w.heap.size w wr := B07.trans (hbr.mono B07.size)
      by_cases hlt : j < n
      · obtain ⟨b1, o1, e1, h1⟩ := hcell (by omega)
        cases e1
        obtain ⟨c10, c11⟩ := h1 j hlt
        have m0 : ∀ W, Below wr.heap.size wr W → W.cell? ⟨b1, o1 + j * 2, none⟩ = some (tx (l.getD j ([], [])).1) := fun W hW => by
          have := B0r.trans (hW.mono B0r.size)
          exact (this.cell (p := ⟨b1, o1 + j * 2, none⟩) (World.block_lt_of_cell? _ _ c10)).trans c10
        have m1 : ∀ W, Below wr.heap.size wr W → W.cell? ⟨b1, o1 + j * 2 + 1, none⟩ = some (tx (l.getD j ([], [])).2) := fun W hW => by
          have := B0r.trans (hW.mono B0r.size)
          exact (this.cell (p := ⟨b1, o1 + j * 2 + 1, none⟩) (World.block_lt_of_cell? _ _ c11)).trans c11
        have hg := hget trivial _ (hmem j hlt)
        have hgt := fun (W : World) (hW : Below wr.heap.size wr W) => hgt0 W a2 c2 (l.getD j ([], [])).1 ((k7.later hbr).later hW)
        rw [hg] at hgt
        clear h1 hcell c10 c11 hget hmem hgt0 hg his
        generalize l.getD j ([], []) = p at *
        obtain ⟨p1, p2⟩ := p
        dsimp only at *
        go_wp2_with fail
        have B2 : Below wr.heap.size wr wr.drew := (Below.refl _ _).drew
        refine wp_region_noPanic ?_
        refine wp_region_held_drew (S := fun W => Below wr.heap.size wr W) (by kernel_rfl) ?_ (fun _ => ?_)
        · exact B2
        generalize wr.drew = wd at *
        refine take_at 0 (some 61) (.slice a2 q.length c2) rfl rfl (by kernel_rfl) (by kernel_rfl) (by kernel_rfl) (fun _ _ _ h => h) (by rfl) (fun W hSw => by go_simp) B2 ?_
        simp only [Act.put, List.setIfInBounds_toArray, List.set_cons_zero, List.set_cons_succ]
        refine take_at 1 (some 62) (.slice (some ⟨b1, o1, none⟩) n c) rfl rfl (by kernel_rfl) (by kernel_rfl) (by kernel_rfl) (fun _ _ _ h => h) (by rfl) (fun W hSw => by go_simp) B2 ?_
        simp only [Act.put, List.setIfInBounds_toArray, List.set_cons_zero, List.set_cons_succ]
        refine take_at 2 (some 63) (.int .i64 j) rfl rfl (by kernel_rfl) (by kernel_rfl) (by kernel_rfl) (fun _ _ _ h => h) (by rfl) (fun W hSw => by go_simp) B2 ?_
        simp only [Act.put, List.setIfInBounds_toArray, List.set_cons_zero, List.set_cons_succ]
        refine take_at 3 (some 64) (.pointer (some ⟨b1, o1 + j * 2, none⟩)) rfl rfl (by kernel_rfl) (by kernel_rfl) (by kernel_rfl) (fun _ _ _ h => h) (by rfl) (fun W hSw => by go_simp) B2 ?_
        simp only [Act.put, List.setIfInBounds_toArray, List.set_cons_zero, List.set_cons_succ]
        refine take_at 4 (some 65) (.pointer (some ⟨b1, o1 + j * 2, none⟩)) rfl rfl (by kernel_rfl) (by kernel_rfl) (by kernel_rfl) (fun _ _ _ h => h) (by rfl) (fun W hSw => by go_simp) B2 ?_
        simp only [Act.put, List.setIfInBounds_toArray, List.set_cons_zero, List.set_cons_succ]
        refine take_at 5 (some 66) (tx p1) rfl rfl (by kernel_rfl) (by kernel_rfl) (by kernel_rfl) (fun _ _ _ h => h) (by rfl) (fun W hSw => by have c0 := m0 W hSw; go_simp) B2 ?_
        simp only [Act.put, List.setIfInBounds_toArray, List.set_cons_zero, List.set_cons_succ]
        refine take_at 7 (some 68) (.slice (some ⟨b1, o1, none⟩) n c) rfl rfl (by kernel_rfl) (by kernel_rfl) (by kernel_rfl) (fun _ _ _ h => h) (by rfl) (fun W hSw => by go_simp) B2 ?_
        simp only [Act.put, List.setIfInBounds_toArray, List.set_cons_zero, List.set_cons_succ]
        refine take_at 8 (some 69) (.int .i64 j) rfl rfl (by kernel_rfl) (by kernel_rfl) (by kernel_rfl) (fun _ _ _ h => h) (by rfl) (fun W hSw => by go_simp) B2 ?_
        simp only [Act.put, List.setIfInBounds_toArray, List.set_cons_zero, List.set_cons_succ]
        refine take_at 9 (some 70) (.pointer (some ⟨b1, o1 + j * 2, none⟩)) rfl rfl (by kernel_rfl) (by kernel_rfl) (by kernel_rfl) (fun _ _ _ h => h) (by rfl) (fun W hSw => by go_simp) B2 ?_
        simp only [Act.put, List.setIfInBounds_toArray, List.set_cons_zero, List.set_cons_succ]
        refine take_at 10 (some 71) (.pointer (some ⟨b1, o1 + j * 2 + 1, none⟩)) rfl rfl (by kernel_rfl) (by kernel_rfl) (by kernel_rfl) (fun _ _ _ h => h) (by rfl) (fun W hSw => by go_simp) B2 ?_
        simp only [Act.put, List.setIfInBounds_toArray, List.set_cons_zero, List.set_cons_succ]
        refine take_at 11 (some 72) (tx p2) rfl rfl (by kernel_rfl) (by kernel_rfl) (by kernel_rfl) (fun _ _ _ h => h) (by rfl) (fun W hSw => by have c1 := m1 W hSw; go_simp) B2 ?_
        simp only [Act.put, List.setIfInBounds_toArray, List.set_cons_zero, List.set_cons_succ]
        refine wpAnyH_ready (rs := [6]) (by kernel_rfl) (by simp) ?_
        refine AllReadyH.cons rfl (fun K hK => ?_) AllReadyH.nil
        go_simp
        refine (hgt _ B2).mono ?_
        rintro e w5 ⟨rfl, hb5⟩
        have B5 := Below.chain B2 hb5
        refine hK.out _ _ ?_ (fun _ => ?_)
        · exact B5
        clear hK K
        refine take_at 12 (some 73) (.bool false) rfl rfl (by kernel_rfl) (by kernel_rfl) (by kernel_rfl) (fun _ _ _ h => h) (by rfl) (fun W hSw => by go_simp) B5 ?_
        simp only [Act.put, List.setIfInBounds_toArray, List.set_cons_zero, List.set_cons_succ]
        refine wpAnyH_done (by kernel_rfl) ?_ _
        refine NoPanic.normal ?_
        go_wp2
        go_roundw
        case rel => exact ⟨j + 1, by omega, by go_num, hbr.trans (B5.mono hbr.size)⟩
        case measure => simp [intOf]; omega
      · obtain rfl : j = n := by omega
        go_wp2_with fail
        refine (his wr a2 c2 (k7.later hbr)).mono ?_
        rintro e w9 ⟨rfl, hb9⟩
        go_wp2
        go_ret
        exact ⟨rfl, B0r.trans (hb9.mono B0r.size)⟩
  · have hE0 : (E == 0) = false := by rw [beq_eq_false_iff_ne]; omega
    have hE1 : (E != 0) = true := by rw [bne_iff_ne]; omega
    clear hne hmi hget
    go_wp2_with fail
    go_loopw [10] (fun i wr => i = .int .i64 (0 : Nat) ∧ wr = w7) (fun i _ => 0)
    case atStart => exact ⟨rfl, rfl⟩
    case round =>
      obtain ⟨rfl, rfl⟩ := hrel
      go_wp2
      go_ret
      exact ⟨rfl, B07⟩
set_option maxHeartbeats 1000000 in
theorem sorted_walk (xa : Option Addr) (n c : Nat) (l : List Pr) (tu : Int) (w : World) (hn : n ≤ 9223372036854775807) (htu : 0 ≤ tu ∧ tu ≤ 255) (hf : Fit l) (hx : Ps w xa n l) (hcap : n ≤ c) (hM : Mx w) :
    Calls Tryd.prog 3 #[.slice xa n c, .int .u8 tu] w fun e w' => e = .returned (.bool true) ∧ Below w.heap.size w w' := by
  have hknown := known_any w hM
  have hga := fun (W : World) (hW : Below w.heap.size w W) => big_any xa n c l W hn hf (hx.later hW)
  cases bl : bigB l with
  | true =>
    rw [bl] at hga
    clear bl
    go_enter Tryd.func3, Tryd.ntmps3
    go_wp2_with fail
    refine hknown.mono ?_
    rintro e w1 ⟨rfl, hb1⟩
    go_wp2_with fail
    refine (hga _ hb1).mono ?_
    rintro e w' ⟨rfl, rfl⟩
    go_wp2
    go_ret
    exact ⟨rfl, hb1⟩
  | false =>
    by_cases h0 : n = 0
    · subst h0
      rw [bl] at hga
      clear bl
      go_enter Tryd.func3, Tryd.ntmps3
      go_wp2_with fail
      refine hknown.mono ?_
      rintro e w1 ⟨rfl, hb1⟩
      go_wp2_with fail
      refine (hga _ hb1).mono ?_
      rintro e w' ⟨rfl, rfl⟩
      go_wp2
      go_ret
      exact ⟨rfl, hb1⟩
    · have hn20 := (big_not bl).1
      rw [hx.1] at hn20
      obtain ⟨t, rfl⟩ : ∃ t : Nat, tu = t := ⟨tu.toNat, by omega⟩
      have hpos : 0 < n := Nat.pos_of_ne_zero h0
      obtain ⟨b, off, rfl, _⟩ := hx.2 hpos
      exact sorted_core ⟨b, off, none⟩ n c l (t % n) t w hn20 hpos (by omega) (Nat.mod_lt _ hpos) (by simp) hf hx hcap hM bl
end Go.Proofs.YtmhpmlfpflkgbabDoor
