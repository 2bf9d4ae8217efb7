/- LabelParts: the walk. -/
import Derived.Test.YtmhpmlfpflkgbaaDoorKnown
namespace Go.Proofs.YtmhpmlfpflkgbaaDoor
open Go.RowKit

/-- Is a pair kept, is it left. -/
def kept (ns : List Str) (p : Pr) : Bool := ns.contains p.1
def left (ns : List Str) (p : Pr) : Bool := !decide (p.1 = nm) && !ns.contains p.1
theorem keep_eq (l : List Pr) (ns : List Str) : fKeep l ns = l.filter (kept ns) := rfl
theorem without_eq (l : List Pr) (ns : List Str) : fWithout l ns = l.filter (left ns) := rfl
theorem part_get {l : List Pr} (h : fIs l = true) (f : Pr → Bool) {p : Pr} (hp : p ∈ l) : (fGet (l.filter f) p.1 == []) = !f p := by
  have h' := (is_iff l).1 h
  rw [get_filter (rises_nodup h'.2.2) f hp]
  have hv := val_ne (h'.2.1 p hp).2
  cases f p
  · rfl
  · simpa using hv
theorem both_not (ns : List Str) (p : Pr) : kept ns p = true → left ns p = false := by
  unfold kept left
  intro h
  rw [h]
  simp
theorem left_not {ns : List Str} {p : Pr} (h : kept ns p = false) : left ns p = !decide (p.1 = nm) := by
  unfold kept at h
  unfold left
  rw [h]
  simp
def cnt (ns : List Str) (l : List Pr) : Nat := l.countP fun p => kept ns p || left ns p
theorem cnt_all (ns : List Str) (l : List Pr) : cnt ns l = (fKeep l ns).length + (fWithout l ns).length := by
  unfold cnt
  rw [keep_eq, without_eq, ← List.countP_eq_length_filter, ← List.countP_eq_length_filter]
  induction l with
  | nil => rfl
  | cons p l ih =>
    rw [List.countP_cons, List.countP_cons, List.countP_cons, ih]
    have := both_not ns p
    cases h1 : kept ns p <;> cases h2 : left ns p <;> simp_all <;> omega
theorem cnt_take {ns : List Str} {l : List Pr} {j : Nat} (hj : j < l.length) : cnt ns (l.take (j + 1)) = cnt ns (l.take j) + if (kept ns (l.getD j ([], [])) || left ns (l.getD j ([], []))) = true then 1 else 0 := by
  unfold cnt
  rw [List.take_succ_eq_append_getElem hj, List.countP_append, getD_at hj]
  simp [List.countP_cons]
theorem cnt_le (ns : List Str) (l : List Pr) : cnt ns l ≤ l.length := List.countP_le_length
theorem keep_names (l : List Pr) : fKeep l (l.map (·.1)) = l := by
  unfold fKeep
  rw [List.filter_eq_self]
  intro p hp
  rw [List.contains_iff_mem]
  exact List.mem_map_of_mem hp
theorem without_names (l : List Pr) : fWithout l (l.map (·.1)) = [] := by
  unfold fWithout
  rw [List.filter_eq_nil_iff]
  intro p hp
  have : (l.map (·.1)).contains p.1 = true := by rw [List.contains_iff_mem]; exact List.mem_map_of_mem hp
  rw [this]
  simp
theorem keep_none (l : List Pr) : fKeep l [] = [] := by
  unfold fKeep
  rw [List.filter_eq_nil_iff]
  intro p _
  simp
theorem names_snoc {l : List Pr} {j : Nat} (hj : j < l.length) : (l.take (j + 1)).map (·.1) = (l.take j).map (·.1) ++ [(l.getD j ([], [])).1] := by
  rw [List.take_succ_eq_append_getElem hj, List.map_append, getD_at hj]
  rfl
theorem same_c (xa : Option Addr) (n c : Nat) (a : List Pr) (ya : Option Addr) (m d : Nat) (b : List Pr) (w : World) (hn : n ≤ 9223372036854775807) (hm : m ≤ 9223372036854775807) (hx : Ps w xa n a) (hy : Ps w ya m b) :
    Calls Tryd.prog 11 #[.slice xa n c, .slice ya m d] w fun e w' => e = .returned (.bool (sameB a b)) ∧ Below w.heap.size w w' :=
  (same_any xa n c a ya m d b w hn hm hx hy).mono fun _ _ ⟨h1, k, h2⟩ => ⟨h1, by rw [h2]; exact below_drewN (Below.refl _ _) k⟩
theorem Own.slice3 {w : World} {base : Nat} {v : Value} {l : List Pr} {K : Nat} (h : Own w base v l) (hK : l.length = K) : ∃ ao cap, v = .slice ao K cap ∧ Ps w ao K l := by
  obtain ⟨ao, cap, e, hp⟩ := h.fitN
  subst hK
  exact ⟨ao, cap, e, hp⟩

theorem OwnS.slice3 {w : World} {base : Nat} {v : Value} {l : List Str} {K : Nat} (h : OwnS w base v l) (hK : l.length = K) : ∃ ao cap, v = .slice ao K cap ∧ Ss w ao K l := by
  obtain ⟨ao, cap, e, hp, _⟩ := h.slice
  subst hK
  exact ⟨ao, cap, e, hp⟩
def namesUp (l : List Pr) (j : Nat) : List Str := (l.take j).map (·.1)
theorem ownS_none (w : World) (base : Nat) : OwnS w base (.slice none 0 0) [] := ⟨rfl, Or.inl ⟨rfl, rfl⟩⟩

set_option maxRecDepth 200000 in
set_option maxHeartbeats 8000000 in
theorem parts_core (xa : Option Addr) (n c : Nat) (l : List Pr) (ya : Option Addr) (m d : Nat) (ns : List Str) (w : World) (hn : n ≤ 20) (hm : m ≤ 20) (hf : Fit l) (hx : Ps w xa n l) (hy : Ss w ya m ns) (hM : Mx w) (bl : bigB l = false) (il : fIs l = true) :
    Calls Tryd.prog 6 #[.slice xa n c, .slice ya m d] w fun e w' => e = .returned (.bool true) ∧ Below w.heap.size w w' := by
  obtain ⟨i0, hi, hz0, hz1, hz2⟩ := info_parts9
  have hn' : n ≤ 9223372036854775807 := Nat.le_trans hn (by decide)
  have hn1 : n ≤ 1000000 := Nat.le_trans hn (by decide)
  have hm' : m ≤ 9223372036854775807 := Nat.le_trans hm (by decide)
  have hknown := known_any w hM
  have hga := fun (W : World) (hW : Below w.heap.size w W) => big_any xa n c l W hn' hf (hx.later hW)
  have hia := fun (W : World) (hW : Below w.heap.size w W) => is_any xa n c l W hn' hf (hx.later hW)
  have hke := fun (W : World) (hW : Below w.heap.size w W) => keep_any xa n c l ya m d ns W hn1 hm' (hx.later hW) (hy.later hW)
  have hwo := fun (W : World) (hW : Below w.heap.size w W) => without_any xa n c l ya m d ns W hn1 hm' (hx.later hW) (hy.later hW)
  have hkn := fun (W : World) (hW : Below w.heap.size w W) => keep_any xa n c l none 0 0 [] W hn1 (by decide) (hx.later hW) (Ss.nil _ _)
  have hka0 := fun (W : World) (hW : Below w.heap.size w W) (za : Option Addr) (e : Nat) (hs : Ss W za n (l.map (·.1))) => keep_any xa n c l za n e (l.map (·.1)) W hn1 hn' (hx.later hW) hs
  have hwa0 := fun (W : World) (hW : Below w.heap.size w W) (za : Option Addr) (e : Nat) (hs : Ss W za n (l.map (·.1))) => without_any xa n c l za n e (l.map (·.1)) W hn1 hn' (hx.later hW) hs
  rw [keep_none] at hkn
  rw [keep_names] at hka0
  rw [without_names] at hwa0
  rw [bl] at hga
  rw [il] at hia
  have hlen := hx.1
  have hpk : ∀ p, p ∈ l → (fGet (fKeep l ns) p.1 == []) = !kept ns p := fun p hp => part_get il (kept ns) hp
  have hpw : ∀ p, p ∈ l → (fGet (fWithout l ns) p.1 == []) = !left ns p := fun p hp => part_get il (left ns) hp
  have hik : fIs (fKeep l ns) = true := is_filter il _
  have hiw : fIs (fWithout l ns) = true := is_filter il _
  have hfk : Fit (fKeep l ns) := Fit.filter hf _
  have hfw : Fit (fWithout l ns) := Fit.filter hf _
  have hmem : ∀ j, j < n → l.getD j ([], []) ∈ l := fun j hj => by rw [getD_at (by omega)]; exact List.getElem_mem _
  have HCA : Hid (cnt ns l = (fKeep l ns).length + (fWithout l ns).length) := cnt_all ns l
  have hkl : (fKeep l ns).length ≤ n := by rw [← hlen]; exact List.length_filter_le _ _
  have hwl : (fWithout l ns).length ≤ n := by rw [← hlen]; exact List.length_filter_le _ _
  have HLEN : Hid (l.length = n) := hlen
  have hsl := fun (W : World) (hW : Below w.heap.size w W) (za : Option Addr) (e : Nat) (hz : Ps W za n l) => same_c za n e l xa n c l W hn' hn' hz (hx.later hW)
  have hst : sameB l l = true := by unfold sameB; simp
  rw [hst] at hsl
  obtain ⟨_, hcell⟩ := id hx
  clear hst hlen bl il
  obtain ⟨kl, hkl0⟩ : ∃ q, q = fKeep l ns := ⟨_, rfl⟩
  obtain ⟨wl, hwl0⟩ : ∃ q, q = fWithout l ns := ⟨_, rfl⟩
  rw [← hkl0] at hke hpk hik hfk HCA hkl
  rw [← hwl0] at hwo hpw hiw hfw HCA hwl
  clear hkl0 hwl0
  obtain ⟨K, hK⟩ : ∃ q, kl.length = q := ⟨_, rfl⟩
  obtain ⟨X, hX⟩ : ∃ q, wl.length = q := ⟨_, rfl⟩
  rw [hK, hX] at HCA
  rw [hK] at hkl
  rw [hX] at hwl
  have HK : Hid _ := hK
  have HX : Hid _ := hX
  clear hK hX
  go_enter Tryd.func6, Tryd.ntmps6
  go_wp2_with fail
  refine hknown.mono ?_
  rintro e w0 ⟨rfl, hb0⟩
  go_wp2_with fail
  refine (hga _ hb0).mono ?_
  rintro e w' ⟨rfl, rfl⟩
  go_wp2_with fail
  refine (hia _ hb0).mono ?_
  rintro e w1 ⟨rfl, hb1⟩
  have B1 := Below.chain hb0 hb1
  have hm20 : ¬ (20 : Int) < m := by omega
  go_wp2_with fail
  refine (hke _ B1).mono ?_
  rintro e w2 ⟨v2, rfl, ho2, hb2⟩
  have B2' := Below.chain B1 hb2
  obtain ⟨ak, ck, rfl, hpk2⟩ := ho2.slice3 HK.out
  go_wp2_with fail
  refine (hwo _ B2').mono ?_
  rintro e w3 ⟨v3, rfl, ho3, hb3⟩
  have B3 := Below.chain B2' hb3
  obtain ⟨aw, cw, rfl, hpw3⟩ := ho3.slice3 HX.out
  have hpk3 := hpk2.later hb3
  clear hknown hga hia hke hwo hb0 hb1 hb2 hb3 B1 B2' ho2 ho3 hpk2 hm20
  have hgk0 := fun (W : World) (hW : Below w3.heap.size w3 W) (s : Str) => get_any ak K ck kl s W (by omega) (hpk3.later hW)
  have hgw0 := fun (W : World) (hW : Below w3.heap.size w3 W) (s : Str) => get_any aw X cw wl s W (by omega) (hpw3.later hW)
  have hisk := fun (W : World) (hW : Below w3.heap.size w3 W) => is_any ak K ck kl W (by omega) hfk (hpk3.later hW)
  have hisw := fun (W : World) (hW : Below w3.heap.size w3 W) => is_any aw X cw wl W (by omega) hfw (hpw3.later hW)
  rw [hik] at hisk
  rw [hiw] at hisw
  clear hik hiw hfk hfw
  go_wp2_with fail
  go_loopw [8, 7] (fun i q wr => ∃ j : Nat, j ≤ n ∧ i = .int .i64 j ∧ q = .int .i64 (cnt ns (l.take j) : Nat) ∧ Below w3.heap.size w3 wr) (fun i _ _ => n - (intOf i).toNat)
  case atStart => exact ⟨0, by omega, rfl, by simp [cnt], Below.refl _ _⟩
  case round =>
    obtain ⟨j, hj, rfl, rfl, hbr⟩ := hrel
    have B0r : Below w.heap.size w wr := B3.trans (hbr.mono B3.size)
    by_cases hlt : j < n
    · obtain ⟨b1, o1, rfl, h1⟩ := hcell (by omega)
      obtain ⟨c10, _⟩ := h1 j hlt
      have m0 : ∀ W, Below wr.heap.size wr W → W.cell? ⟨b1, o1 + j * 2, none⟩ = some (tx (l.getD j ([], [])).1) := fun W hW => by
        have := B0r.trans (hW.mono B0r.size)
        exact (this.cell (p := ⟨b1, o1 + j * 2, none⟩) (World.block_lt_of_cell? _ _ c10)).trans c10
      have k0 := m0 wr (Below.refl _ _)
      have hgk := fun (W : World) (hW : Below wr.heap.size wr W) => hgk0 W (hbr.trans (hW.mono hbr.size)) (l.getD j ([], [])).1
      have hgw := fun (W : World) (hW : Below wr.heap.size wr W) => hgw0 W (hbr.trans (hW.mono hbr.size)) (l.getD j ([], [])).1
      have E1 : Hid _ := hpk _ (hmem j hlt)
      have E2 : Hid _ := hpw _ (hmem j hlt)
      have HC : Hid _ := cnt_take (ns := ns) (l := l) (j := j) (by rw [HLEN.out]; exact hlt)
      have hcl : cnt ns (l.take j) ≤ 20 := Nat.le_trans (cnt_le _ _) (by rw [List.length_take]; omega)
      have hbn := both_not ns (l.getD j ([], []))
      have hln := left_not (ns := ns) (p := l.getD j ([], []))
      clear h1 hcell c10 hgk0 hgw0 hpk hpw hmem hkn hka0 hwa0 hsl hisk hisw HCA
      generalize l.getD j ([], []) = p at *
      generalize hkp : kept ns p = ka at *
      generalize hlp : left ns p = kb at *
      obtain ⟨p1, p2⟩ := p
      dsimp only at *
      clear hkp hlp
      generalize fGet kl p1 = g1 at *
      generalize fGet wl p1 = g2 at *
      generalize cnt ns (l.take j) = C at *
      cases hka : ka with
      | true =>
        have hkb := hbn hka
        clear hbn hln
        have f1 : (g1 == []) = false := by rw [E1.out, hka]; rfl
        have f2 : (g2 == []) = true := by rw [E2.out, hkb]; rfl
        have HN : Hid (cnt ns (l.take (j + 1)) = C + 1) := by show _ = _; rw [HC.out, hka, hkb]; rfl
        clear hka hkb HC E1 E2
        go_wp2_with fail
        have B2 : Below wr.heap.size wr wr.drew := (Below.refl _ _).drew
        refine wp_region_noPanic ?_
        refine wp_region_held_drew (S := fun W => Below wr.heap.size wr W) (by kernel_rfl) ?_ (fun _ => ?_)
        · exact B2
        generalize wr.drew = wd at *
        refine take_at 0 (some 39) (.slice ak K ck) rfl rfl (by kernel_rfl) (by kernel_rfl) (by kernel_rfl) (fun _ _ _ h => h) (by rfl) (fun W hSw => by go_simp) B2 ?_
        simp only [Act.put, List.setIfInBounds_toArray, List.set_cons_zero, List.set_cons_succ]
        refine take_at 1 (some 40) (.slice (some ⟨b1, o1, none⟩) n c) rfl rfl (by kernel_rfl) (by kernel_rfl) (by kernel_rfl) (fun _ _ _ h => h) (by rfl) (fun W hSw => by go_simp) B2 ?_
        simp only [Act.put, List.setIfInBounds_toArray, List.set_cons_zero, List.set_cons_succ]
        refine take_at 2 (some 41) (.int .i64 j) rfl rfl (by kernel_rfl) (by kernel_rfl) (by kernel_rfl) (fun _ _ _ h => h) (by rfl) (fun W hSw => by go_simp) B2 ?_
        simp only [Act.put, List.setIfInBounds_toArray, List.set_cons_zero, List.set_cons_succ]
        refine take_at 3 (some 42) (.pointer (some ⟨b1, o1 + j * 2, none⟩)) rfl rfl (by kernel_rfl) (by kernel_rfl) (by kernel_rfl) (fun _ _ _ h => h) (by rfl) (fun W hSw => by go_simp) B2 ?_
        simp only [Act.put, List.setIfInBounds_toArray, List.set_cons_zero, List.set_cons_succ]
        refine take_at 4 (some 43) (.pointer (some ⟨b1, o1 + j * 2, none⟩)) rfl rfl (by kernel_rfl) (by kernel_rfl) (by kernel_rfl) (fun _ _ _ h => h) (by rfl) (fun W hSw => by go_simp) B2 ?_
        simp only [Act.put, List.setIfInBounds_toArray, List.set_cons_zero, List.set_cons_succ]
        refine take_at 5 (some 44) (tx p1) rfl rfl (by kernel_rfl) (by kernel_rfl) (by kernel_rfl) (fun _ _ _ h => h) (by rfl) (fun W hSw => by have c0 := m0 W hSw; go_simp) B2 ?_
        simp only [Act.put, List.setIfInBounds_toArray, List.set_cons_zero, List.set_cons_succ]
        refine take_at 8 (some 47) (.slice aw X cw) rfl rfl (by kernel_rfl) (by kernel_rfl) (by kernel_rfl) (fun _ _ _ h => h) (by rfl) (fun W hSw => by go_simp) B2 ?_
        simp only [Act.put, List.setIfInBounds_toArray, List.set_cons_zero, List.set_cons_succ]
        refine take_at 9 (some 48) (.slice (some ⟨b1, o1, none⟩) n c) rfl rfl (by kernel_rfl) (by kernel_rfl) (by kernel_rfl) (fun _ _ _ h => h) (by rfl) (fun W hSw => by go_simp) B2 ?_
        simp only [Act.put, List.setIfInBounds_toArray, List.set_cons_zero, List.set_cons_succ]
        refine take_at 10 (some 49) (.int .i64 j) rfl rfl (by kernel_rfl) (by kernel_rfl) (by kernel_rfl) (fun _ _ _ h => h) (by rfl) (fun W hSw => by go_simp) B2 ?_
        simp only [Act.put, List.setIfInBounds_toArray, List.set_cons_zero, List.set_cons_succ]
        refine take_at 11 (some 50) (.pointer (some ⟨b1, o1 + j * 2, none⟩)) rfl rfl (by kernel_rfl) (by kernel_rfl) (by kernel_rfl) (fun _ _ _ h => h) (by rfl) (fun W hSw => by go_simp) B2 ?_
        simp only [Act.put, List.setIfInBounds_toArray, List.set_cons_zero, List.set_cons_succ]
        refine take_at 12 (some 51) (.pointer (some ⟨b1, o1 + j * 2, none⟩)) rfl rfl (by kernel_rfl) (by kernel_rfl) (by kernel_rfl) (fun _ _ _ h => h) (by rfl) (fun W hSw => by go_simp) B2 ?_
        simp only [Act.put, List.setIfInBounds_toArray, List.set_cons_zero, List.set_cons_succ]
        refine take_at 13 (some 52) (tx p1) rfl rfl (by kernel_rfl) (by kernel_rfl) (by kernel_rfl) (fun _ _ _ h => h) (by rfl) (fun W hSw => by have c0 := m0 W hSw; go_simp) B2 ?_
        simp only [Act.put, List.setIfInBounds_toArray, List.set_cons_zero, List.set_cons_succ]
        refine wpAnyH_ready (rs := [6]) (by kernel_rfl) (by simp) ?_
        refine AllReadyH.cons rfl (fun K hK => ?_) AllReadyH.nil
        go_simp
        refine (hgk _ B2).mono ?_
        rintro e w5 ⟨rfl, hb5⟩
        have B5 := Below.chain B2 hb5
        refine hK.out _ _ ?_ (fun _ => ?_)
        · exact B5
        clear hK K
        refine take_at 7 (some 46) (.bool true) rfl rfl (by kernel_rfl) (by kernel_rfl) (by kernel_rfl) (fun _ _ _ h => h) (by rfl) (fun W hSw => by go_simp) B5 ?_
        simp only [Act.put, List.setIfInBounds_toArray, List.set_cons_zero, List.set_cons_succ]
        refine wpAnyH_ready (rs := [14]) (by kernel_rfl) (by simp) ?_
        refine AllReadyH.cons rfl (fun K hK => ?_) AllReadyH.nil
        go_simp
        refine (hgw _ B5).mono ?_
        rintro e w6 ⟨rfl, hb6⟩
        have B6 := Below.chain B5 hb6
        refine hK.out _ _ ?_ (fun _ => ?_)
        · exact B6
        clear hK K
        refine take_at 15 (some 54) (.bool false) rfl rfl (by kernel_rfl) (by kernel_rfl) (by kernel_rfl) (fun _ _ _ h => h) (by rfl) (fun W hSw => by go_simp) B6 ?_
        simp only [Act.put, List.setIfInBounds_toArray, List.set_cons_zero, List.set_cons_succ]
        refine take_at 16 (some 9) (.bool true) rfl rfl (by kernel_rfl) (by kernel_rfl) (by kernel_rfl) (fun _ _ _ h => h) (by rfl) (fun W hSw => by go_simp) B6 ?_
        simp only [Act.put, List.setIfInBounds_toArray, List.set_cons_zero, List.set_cons_succ]
        refine take_at 17 (some 10) (.bool false) rfl rfl (by kernel_rfl) (by kernel_rfl) (by kernel_rfl) (fun _ _ _ h => h) (by rfl) (fun W hSw => by go_simp) B6 ?_
        simp only [Act.put, List.setIfInBounds_toArray, List.set_cons_zero, List.set_cons_succ]
        refine wpAnyH_done (by kernel_rfl) ?_ _
        refine NoPanic.normal ?_
        go_wp2
        all_goals
          go_roundw
          case rel => exact ⟨j + 1, by omega, by go_num, by rw [HN.out]; go_num, hbr.trans (B6.mono hbr.size)⟩
          case measure => simp [intOf]; omega
      | false =>
        have hkb := hln hka
        clear hbn hln
        by_cases hnm : p1 = nm
        · rw [decide_eq_true hnm] at hkb
          have hnm' : (p1 == [95, 95, 110, 97, 109, 101, 95, 95]) = true := by simpa [nm] using hnm
          clear hnm
          have f1 : (g1 == []) = true := by rw [E1.out, hka]; rfl
          have f2 : (g2 == []) = true := by rw [E2.out, hkb]; rfl
          have HN : Hid (cnt ns (l.take (j + 1)) = C) := by show _ = _; rw [HC.out, hka, hkb]; rfl
          clear hka hkb HC E1 E2
          go_wp2_with fail
          have B2 : Below wr.heap.size wr wr.drew := (Below.refl _ _).drew
          refine wp_region_noPanic ?_
          refine wp_region_held_drew (S := fun W => Below wr.heap.size wr W) (by kernel_rfl) ?_ (fun _ => ?_)
          · exact B2
          generalize wr.drew = wd at *
          refine take_at 0 (some 39) (.slice ak K ck) rfl rfl (by kernel_rfl) (by kernel_rfl) (by kernel_rfl) (fun _ _ _ h => h) (by rfl) (fun W hSw => by go_simp) B2 ?_
          simp only [Act.put, List.setIfInBounds_toArray, List.set_cons_zero, List.set_cons_succ]
          refine take_at 1 (some 40) (.slice (some ⟨b1, o1, none⟩) n c) rfl rfl (by kernel_rfl) (by kernel_rfl) (by kernel_rfl) (fun _ _ _ h => h) (by rfl) (fun W hSw => by go_simp) B2 ?_
          simp only [Act.put, List.setIfInBounds_toArray, List.set_cons_zero, List.set_cons_succ]
          refine take_at 2 (some 41) (.int .i64 j) rfl rfl (by kernel_rfl) (by kernel_rfl) (by kernel_rfl) (fun _ _ _ h => h) (by rfl) (fun W hSw => by go_simp) B2 ?_
          simp only [Act.put, List.setIfInBounds_toArray, List.set_cons_zero, List.set_cons_succ]
          refine take_at 3 (some 42) (.pointer (some ⟨b1, o1 + j * 2, none⟩)) rfl rfl (by kernel_rfl) (by kernel_rfl) (by kernel_rfl) (fun _ _ _ h => h) (by rfl) (fun W hSw => by go_simp) B2 ?_
          simp only [Act.put, List.setIfInBounds_toArray, List.set_cons_zero, List.set_cons_succ]
          refine take_at 4 (some 43) (.pointer (some ⟨b1, o1 + j * 2, none⟩)) rfl rfl (by kernel_rfl) (by kernel_rfl) (by kernel_rfl) (fun _ _ _ h => h) (by rfl) (fun W hSw => by go_simp) B2 ?_
          simp only [Act.put, List.setIfInBounds_toArray, List.set_cons_zero, List.set_cons_succ]
          refine take_at 5 (some 44) (tx p1) rfl rfl (by kernel_rfl) (by kernel_rfl) (by kernel_rfl) (fun _ _ _ h => h) (by rfl) (fun W hSw => by have c0 := m0 W hSw; go_simp) B2 ?_
          simp only [Act.put, List.setIfInBounds_toArray, List.set_cons_zero, List.set_cons_succ]
          refine take_at 8 (some 47) (.slice aw X cw) rfl rfl (by kernel_rfl) (by kernel_rfl) (by kernel_rfl) (fun _ _ _ h => h) (by rfl) (fun W hSw => by go_simp) B2 ?_
          simp only [Act.put, List.setIfInBounds_toArray, List.set_cons_zero, List.set_cons_succ]
          refine take_at 9 (some 48) (.slice (some ⟨b1, o1, none⟩) n c) rfl rfl (by kernel_rfl) (by kernel_rfl) (by kernel_rfl) (fun _ _ _ h => h) (by rfl) (fun W hSw => by go_simp) B2 ?_
          simp only [Act.put, List.setIfInBounds_toArray, List.set_cons_zero, List.set_cons_succ]
          refine take_at 10 (some 49) (.int .i64 j) rfl rfl (by kernel_rfl) (by kernel_rfl) (by kernel_rfl) (fun _ _ _ h => h) (by rfl) (fun W hSw => by go_simp) B2 ?_
          simp only [Act.put, List.setIfInBounds_toArray, List.set_cons_zero, List.set_cons_succ]
          refine take_at 11 (some 50) (.pointer (some ⟨b1, o1 + j * 2, none⟩)) rfl rfl (by kernel_rfl) (by kernel_rfl) (by kernel_rfl) (fun _ _ _ h => h) (by rfl) (fun W hSw => by go_simp) B2 ?_
          simp only [Act.put, List.setIfInBounds_toArray, List.set_cons_zero, List.set_cons_succ]
          refine take_at 12 (some 51) (.pointer (some ⟨b1, o1 + j * 2, none⟩)) rfl rfl (by kernel_rfl) (by kernel_rfl) (by kernel_rfl) (fun _ _ _ h => h) (by rfl) (fun W hSw => by go_simp) B2 ?_
          simp only [Act.put, List.setIfInBounds_toArray, List.set_cons_zero, List.set_cons_succ]
          refine take_at 13 (some 52) (tx p1) rfl rfl (by kernel_rfl) (by kernel_rfl) (by kernel_rfl) (fun _ _ _ h => h) (by rfl) (fun W hSw => by have c0 := m0 W hSw; go_simp) B2 ?_
          simp only [Act.put, List.setIfInBounds_toArray, List.set_cons_zero, List.set_cons_succ]
          refine wpAnyH_ready (rs := [6]) (by kernel_rfl) (by simp) ?_
          refine AllReadyH.cons rfl (fun K hK => ?_) AllReadyH.nil
          go_simp
          refine (hgk _ B2).mono ?_
          rintro e w5 ⟨rfl, hb5⟩
          have B5 := Below.chain B2 hb5
          refine hK.out _ _ ?_ (fun _ => ?_)
          · exact B5
          clear hK K
          refine take_at 7 (some 46) (.bool false) rfl rfl (by kernel_rfl) (by kernel_rfl) (by kernel_rfl) (fun _ _ _ h => h) (by rfl) (fun W hSw => by go_simp) B5 ?_
          simp only [Act.put, List.setIfInBounds_toArray, List.set_cons_zero, List.set_cons_succ]
          refine wpAnyH_ready (rs := [14]) (by kernel_rfl) (by simp) ?_
          refine AllReadyH.cons rfl (fun K hK => ?_) AllReadyH.nil
          go_simp
          refine (hgw _ B5).mono ?_
          rintro e w6 ⟨rfl, hb6⟩
          have B6 := Below.chain B5 hb6
          refine hK.out _ _ ?_ (fun _ => ?_)
          · exact B6
          clear hK K
          refine take_at 15 (some 54) (.bool false) rfl rfl (by kernel_rfl) (by kernel_rfl) (by kernel_rfl) (fun _ _ _ h => h) (by rfl) (fun W hSw => by go_simp) B6 ?_
          simp only [Act.put, List.setIfInBounds_toArray, List.set_cons_zero, List.set_cons_succ]
          refine take_at 16 (some 9) (.bool false) rfl rfl (by kernel_rfl) (by kernel_rfl) (by kernel_rfl) (fun _ _ _ h => h) (by rfl) (fun W hSw => by go_simp) B6 ?_
          simp only [Act.put, List.setIfInBounds_toArray, List.set_cons_zero, List.set_cons_succ]
          refine take_at 17 (some 10) (.bool false) rfl rfl (by kernel_rfl) (by kernel_rfl) (by kernel_rfl) (fun _ _ _ h => h) (by rfl) (fun W hSw => by go_simp) B6 ?_
          simp only [Act.put, List.setIfInBounds_toArray, List.set_cons_zero, List.set_cons_succ]
          refine wpAnyH_done (by kernel_rfl) ?_ _
          refine NoPanic.normal ?_
          go_wp2
          all_goals
            go_roundw
            case rel => exact ⟨j + 1, by omega, by go_num, by rw [HN.out], hbr.trans (B6.mono hbr.size)⟩
            case measure => simp [intOf]; omega
        · rw [decide_eq_false hnm] at hkb
          have hnm' : (p1 == [95, 95, 110, 97, 109, 101, 95, 95]) = false := by simpa [nm] using hnm
          clear hnm
          have f1 : (g1 == []) = true := by rw [E1.out, hka]; rfl
          have f2 : (g2 == []) = false := by rw [E2.out, hkb]; rfl
          have HN : Hid (cnt ns (l.take (j + 1)) = C + 1) := by show _ = _; rw [HC.out, hka, hkb]; rfl
          clear hka hkb HC E1 E2
          go_wp2_with fail
          have B2 : Below wr.heap.size wr wr.drew := (Below.refl _ _).drew
          refine wp_region_noPanic ?_
          refine wp_region_held_drew (S := fun W => Below wr.heap.size wr W) (by kernel_rfl) ?_ (fun _ => ?_)
          · exact B2
          generalize wr.drew = wd at *
          refine take_at 0 (some 39) (.slice ak K ck) rfl rfl (by kernel_rfl) (by kernel_rfl) (by kernel_rfl) (fun _ _ _ h => h) (by rfl) (fun W hSw => by go_simp) B2 ?_
          simp only [Act.put, List.setIfInBounds_toArray, List.set_cons_zero, List.set_cons_succ]
          refine take_at 1 (some 40) (.slice (some ⟨b1, o1, none⟩) n c) rfl rfl (by kernel_rfl) (by kernel_rfl) (by kernel_rfl) (fun _ _ _ h => h) (by rfl) (fun W hSw => by go_simp) B2 ?_
          simp only [Act.put, List.setIfInBounds_toArray, List.set_cons_zero, List.set_cons_succ]
          refine take_at 2 (some 41) (.int .i64 j) rfl rfl (by kernel_rfl) (by kernel_rfl) (by kernel_rfl) (fun _ _ _ h => h) (by rfl) (fun W hSw => by go_simp) B2 ?_
          simp only [Act.put, List.setIfInBounds_toArray, List.set_cons_zero, List.set_cons_succ]
          refine take_at 3 (some 42) (.pointer (some ⟨b1, o1 + j * 2, none⟩)) rfl rfl (by kernel_rfl) (by kernel_rfl) (by kernel_rfl) (fun _ _ _ h => h) (by rfl) (fun W hSw => by go_simp) B2 ?_
          simp only [Act.put, List.setIfInBounds_toArray, List.set_cons_zero, List.set_cons_succ]
          refine take_at 4 (some 43) (.pointer (some ⟨b1, o1 + j * 2, none⟩)) rfl rfl (by kernel_rfl) (by kernel_rfl) (by kernel_rfl) (fun _ _ _ h => h) (by rfl) (fun W hSw => by go_simp) B2 ?_
          simp only [Act.put, List.setIfInBounds_toArray, List.set_cons_zero, List.set_cons_succ]
          refine take_at 5 (some 44) (tx p1) rfl rfl (by kernel_rfl) (by kernel_rfl) (by kernel_rfl) (fun _ _ _ h => h) (by rfl) (fun W hSw => by have c0 := m0 W hSw; go_simp) B2 ?_
          simp only [Act.put, List.setIfInBounds_toArray, List.set_cons_zero, List.set_cons_succ]
          refine take_at 8 (some 47) (.slice aw X cw) rfl rfl (by kernel_rfl) (by kernel_rfl) (by kernel_rfl) (fun _ _ _ h => h) (by rfl) (fun W hSw => by go_simp) B2 ?_
          simp only [Act.put, List.setIfInBounds_toArray, List.set_cons_zero, List.set_cons_succ]
          refine take_at 9 (some 48) (.slice (some ⟨b1, o1, none⟩) n c) rfl rfl (by kernel_rfl) (by kernel_rfl) (by kernel_rfl) (fun _ _ _ h => h) (by rfl) (fun W hSw => by go_simp) B2 ?_
          simp only [Act.put, List.setIfInBounds_toArray, List.set_cons_zero, List.set_cons_succ]
          refine take_at 10 (some 49) (.int .i64 j) rfl rfl (by kernel_rfl) (by kernel_rfl) (by kernel_rfl) (fun _ _ _ h => h) (by rfl) (fun W hSw => by go_simp) B2 ?_
          simp only [Act.put, List.setIfInBounds_toArray, List.set_cons_zero, List.set_cons_succ]
          refine take_at 11 (some 50) (.pointer (some ⟨b1, o1 + j * 2, none⟩)) rfl rfl (by kernel_rfl) (by kernel_rfl) (by kernel_rfl) (fun _ _ _ h => h) (by rfl) (fun W hSw => by go_simp) B2 ?_
          simp only [Act.put, List.setIfInBounds_toArray, List.set_cons_zero, List.set_cons_succ]
          refine take_at 12 (some 51) (.pointer (some ⟨b1, o1 + j * 2, none⟩)) rfl rfl (by kernel_rfl) (by kernel_rfl) (by kernel_rfl) (fun _ _ _ h => h) (by rfl) (fun W hSw => by go_simp) B2 ?_
          simp only [Act.put, List.setIfInBounds_toArray, List.set_cons_zero, List.set_cons_succ]
          refine take_at 13 (some 52) (tx p1) rfl rfl (by kernel_rfl) (by kernel_rfl) (by kernel_rfl) (fun _ _ _ h => h) (by rfl) (fun W hSw => by have c0 := m0 W hSw; go_simp) B2 ?_
          simp only [Act.put, List.setIfInBounds_toArray, List.set_cons_zero, List.set_cons_succ]
          refine wpAnyH_ready (rs := [6]) (by kernel_rfl) (by simp) ?_
          refine AllReadyH.cons rfl (fun K hK => ?_) AllReadyH.nil
          go_simp
          refine (hgk _ B2).mono ?_
          rintro e w5 ⟨rfl, hb5⟩
          have B5 := Below.chain B2 hb5
          refine hK.out _ _ ?_ (fun _ => ?_)
          · exact B5
          clear hK K
          refine take_at 7 (some 46) (.bool false) rfl rfl (by kernel_rfl) (by kernel_rfl) (by kernel_rfl) (fun _ _ _ h => h) (by rfl) (fun W hSw => by go_simp) B5 ?_
          simp only [Act.put, List.setIfInBounds_toArray, List.set_cons_zero, List.set_cons_succ]
          refine wpAnyH_ready (rs := [14]) (by kernel_rfl) (by simp) ?_
          refine AllReadyH.cons rfl (fun K hK => ?_) AllReadyH.nil
          go_simp
          refine (hgw _ B5).mono ?_
          rintro e w6 ⟨rfl, hb6⟩
          have B6 := Below.chain B5 hb6
          refine hK.out _ _ ?_ (fun _ => ?_)
          · exact B6
          clear hK K
          refine take_at 15 (some 54) (.bool true) rfl rfl (by kernel_rfl) (by kernel_rfl) (by kernel_rfl) (fun _ _ _ h => h) (by rfl) (fun W hSw => by go_simp) B6 ?_
          simp only [Act.put, List.setIfInBounds_toArray, List.set_cons_zero, List.set_cons_succ]
          refine take_at 16 (some 9) (.bool false) rfl rfl (by kernel_rfl) (by kernel_rfl) (by kernel_rfl) (fun _ _ _ h => h) (by rfl) (fun W hSw => by go_simp) B6 ?_
          simp only [Act.put, List.setIfInBounds_toArray, List.set_cons_zero, List.set_cons_succ]
          refine take_at 17 (some 10) (.bool true) rfl rfl (by kernel_rfl) (by kernel_rfl) (by kernel_rfl) (fun _ _ _ h => h) (by rfl) (fun W hSw => by go_simp) B6 ?_
          simp only [Act.put, List.setIfInBounds_toArray, List.set_cons_zero, List.set_cons_succ]
          refine wpAnyH_done (by kernel_rfl) ?_ _
          refine NoPanic.normal ?_
          go_wp2
          all_goals
            go_roundw
            case rel => exact ⟨j + 1, by omega, by go_num, by rw [HN.out]; go_num, hbr.trans (B6.mono hbr.size)⟩
            case measure => simp [intOf]; omega
    · have hjn : j = n := by omega
      have HQ : Hid (cnt ns (l.take j) = K + X) := by show _ = _; rw [hjn, List.take_of_length_le (by rw [HLEN.out]; exact Nat.le_refl _), HCA.out]
      have B3s : Below w3.heap.size w3 wr := hbr
      generalize cnt ns (l.take j) = S at *
      clear HCA hgk0 hgw0 hpk hpw hbr hjn
      generalize wr = u4 at *
      go_wp2_with fail
      go_loopw [12, 11] (fun i u W => ∃ (x : Nat) (v : Value), x ≤ n ∧ i = .int .i64 x ∧ v = u ∧ OwnS W u4.heap.size v (namesUp l x) ∧ Below u4.heap.size u4 W) (fun i _ _ => n - (intOf i).toNat)
      case atStart => exact ⟨0, _, by omega, rfl, rfl, ownS_none _ _, Below.refl _ _⟩
      case round =>
        obtain ⟨x, v, hx, rfl, rfl, ho, hb⟩ := hrel
        have B0s : Below w.heap.size w wr := B0r.trans (hb.mono B0r.size)
        by_cases hlt2 : x < n
        · obtain ⟨b1, o1, rfl, h1⟩ := hcell (by omega)
          obtain ⟨c10, _⟩ := h1 x hlt2
          have k0 : wr.cell? ⟨b1, o1 + x * 2, none⟩ = some (tx (l.getD x ([], [])).1) := (B0s.cell (p := ⟨b1, o1 + x * 2, none⟩) (World.block_lt_of_cell? _ _ c10)).trans c10
          have HSN : Hid (namesUp l (x + 1) = namesUp l x ++ [(l.getD x ([], [])).1]) := names_snoc (l := l) (j := x) (by rw [HLEN.out]; exact hlt2)
          have hml : (namesUp l x).length = x := by unfold namesUp; rw [List.length_map, List.length_take, HLEN.out]; omega
          clear h1 hcell c10 hmem hkn hka0 hwa0 hsl hisk hisw
          generalize l.getD x ([], []) = p at *
          obtain ⟨p1, p2⟩ := p
          dsimp only at *
          have ho2 := ho.later (bal (Below.refl _ _) (.cells #[tx p1] 9))
          have hbo := bal hb (.cells #[tx p1] 9)
          have hml2 : (namesUp l x).length ≤ 20 := by omega
          have HML : Hid _ := hml
          clear hml
          go_wp2_with (at_builtin; go_must (refine wpList_append_own _ rfl _ _ 39 rfl u4.heap.size 9 i0 (tx []) 1 16 Tryd.underlying39 hi hz0 hz1 hz2 rfl (by decide) _ _ _ rfl ho2 ⟨wr.heap.size, 0, none⟩ 1 1 [tx p1] rfl rfl (one_cell (World.cell?_alloc_new wr _ _ 0)) (fun u hu => by cases hu with | head => rfl | tail _ h => cases h) ?h63 ?hby ?hbs ?_))
          case h63 => unfold maxLen; omega
          case hby => omega
          case hbs => have := hb.size; simp; omega
          intro v' w7 ho7 hg7 _
          go_wp2
          go_roundw
          case rel => exact ⟨x + 1, _, by omega, by go_num, rfl, by rw [HSN.out]; exact OwnS.snoc ho7, hbo.grown hg7 hbo.size (fun k hk => (World.ownsRow.lt ho2 k hk).1)⟩
          case measure => simp [intOf]; omega
        · have hxn : x = n := by omega
          have HT : Hid (namesUp l x = l.map (·.1)) := by show _ = _; unfold namesUp; rw [hxn, List.take_of_length_le (by rw [HLEN.out]; exact Nat.le_refl _)]
          rw [HT.out] at ho
          obtain ⟨az, cz, rfl, hz⟩ := ho.slice3 (K := n) (by rw [List.length_map]; exact HLEN.out)
          have Q : Below w3.heap.size w3 wr := B3s.trans (hb.mono B3s.size)
          clear HT ho hb hmem hcell B3s hxn
          have hS : (S : Int) = K + X := by rw [HQ.out]; omega
          go_wp2_with fail
          refine (hisk _ Q).mono ?_
          rintro e w5 ⟨rfl, hb5⟩
          have Q5 := Below.chain Q hb5
          have z5 := hz.later hb5
          have B5 := Below.chain B0s hb5
          clear hisk hz
          go_wp2_with fail
          refine (hisw _ Q5).mono ?_
          rintro e w6 ⟨rfl, hb6⟩
          have z6 := z5.later hb6
          have B6 := Below.chain B5 hb6
          clear hisw z5
          go_wp2_with fail
          refine (hka0 _ B6 _ _ z6).mono ?_
          rintro e w7 ⟨v7, rfl, ho7, hb7⟩
          have z7 := z6.later hb7
          have B7 := Below.chain B6 hb7
          obtain ⟨a7, c7, rfl, hp7⟩ := ho7.slice3 HLEN.out
          clear hka0 z6 ho7
          go_wp2_with fail
          refine (hsl _ B7 _ _ hp7).mono ?_
          rintro e w8 ⟨rfl, hb8⟩
          have z8 := z7.later hb8
          have B8 := Below.chain B7 hb8
          clear hsl z7 hp7
          go_wp2_with fail
          refine (hwa0 _ B8 _ _ z8).mono ?_
          rintro e w9 ⟨v9, rfl, ho9, hb9⟩
          have B9 := Below.chain B8 hb9
          obtain ⟨a9, c9, rfl, hp9⟩ := ho9.slice3 rfl
          clear hwa0 z8 ho9
          go_wp2_with fail
          refine (hkn _ B9).mono ?_
          rintro e w10 ⟨v10, rfl, ho10, hb10⟩
          have B10 := Below.chain B9 hb10
          obtain ⟨a10, c10, rfl, hp10⟩ := ho10.slice3 rfl
          clear hkn ho10
          go_wp2_with fail
          go_ret
          exact ⟨rfl, B10⟩
set_option maxRecDepth 200000 in
set_option maxHeartbeats 4000000 in
theorem parts_walk (xa : Option Addr) (n c : Nat) (l : List Pr) (ya : Option Addr) (m d : Nat) (ns : List Str) (w : World) (hn : n ≤ 9223372036854775807) (hm : m ≤ 9223372036854775807) (hf : Fit l) (hx : Ps w xa n l) (hy : Ss w ya m ns) (hM : Mx w) :
    Calls Tryd.prog 6 #[.slice xa n c, .slice ya m d] w fun e w' => e = .returned (.bool true) ∧ Below w.heap.size w w' := by
  have hknown := known_any w hM
  have hga := fun (W : World) (hW : Below w.heap.size w W) => big_any xa n c l W hn hf (hx.later hW)
  have hia := fun (W : World) (hW : Below w.heap.size w W) => is_any xa n c l W hn hf (hx.later hW)
  cases bl : bigB l with
  | true =>
    rw [bl] at hga
    clear hia
    go_enter Tryd.func6, Tryd.ntmps6
    go_wp2_with fail
    refine hknown.mono ?_
    rintro e w0 ⟨rfl, hb0⟩
    go_wp2_with fail
    refine (hga _ hb0).mono ?_
    rintro e w' ⟨rfl, rfl⟩
    go_wp2_with fail
    go_ret
    exact ⟨rfl, hb0⟩
  | false =>
    cases il : fIs l with
    | false =>
      rw [bl] at hga
      rw [il] at hia
      go_enter Tryd.func6, Tryd.ntmps6
      go_wp2_with fail
      refine hknown.mono ?_
      rintro e w0 ⟨rfl, hb0⟩
      go_wp2_with fail
      refine (hga _ hb0).mono ?_
      rintro e w' ⟨rfl, rfl⟩
      go_wp2_with fail
      refine (hia _ hb0).mono ?_
      rintro e w1 ⟨rfl, hb1⟩
      have B1 := Below.chain hb0 hb1
      go_wp2_with fail
      go_ret
      exact ⟨rfl, B1⟩
    | true =>
      by_cases hm2 : m ≤ 20
      · exact parts_core xa n c l ya m d ns w (by rw [← hx.1]; exact (big_not bl).1) hm2 hf hx hy hM bl il
      · rw [bl] at hga
        rw [il] at hia
        have hm20 : (20 : Int) < m := by omega
        go_enter Tryd.func6, Tryd.ntmps6
        go_wp2_with fail
        refine hknown.mono ?_
        rintro e w0 ⟨rfl, hb0⟩
        go_wp2_with fail
        refine (hga _ hb0).mono ?_
        rintro e w' ⟨rfl, rfl⟩
        go_wp2_with fail
        refine (hia _ hb0).mono ?_
        rintro e w1 ⟨rfl, hb1⟩
        have B1 := Below.chain hb0 hb1
        go_wp2_with fail
        go_ret
        exact ⟨rfl, B1⟩
end Go.Proofs.YtmhpmlfpflkgbaaDoor
