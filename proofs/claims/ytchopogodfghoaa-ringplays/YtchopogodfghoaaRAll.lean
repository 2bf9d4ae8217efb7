/- All, Sum, Avg, Delta: of every window. -/
import Derived.Test.YtchopogodfghoaaRRow
import Derived.Test.YtchopogodfghoaaSub
namespace Go.Proofs.Ytchopogodfghoaa
open Go.RowKit

theorem take_snocS {l : List Smp} {j : Nat} (h : j < l.length) : l.take (j + 1) = l.take j ++ [l.getD j s0] := by
  rw [List.take_add_one, List.getD_eq_getElem?_getD, List.getElem?_eq_getElem h]
  rfl
set_option maxHeartbeats 2000000 in
theorem all_any (b : Nat) (l : List Smp) (k now : Int) (w : World) (h : Rl w b l k now) :
    Calls Try.prog 17 #[.pointer (some ⟨b, 0, none⟩)] w fun e w' => ∃ v, e = .returned v ∧ Own w' w.heap.size v l ∧ Below w.heap.size w w' := by
  obtain ⟨i0, hi, hz0, hz1, hz2⟩ := infoS_parts
  have hlen : l.length ≤ 100 := by
    obtain ⟨f, o, ho, hl, hr, hf⟩ := h
    exact hl
  have HA : Hid (∀ j, l.length ≤ j → l.take j = l) := fun j hj => List.take_of_length_le hj
  have hcc : ∀ W, Rl W b l k now → W.cell? ⟨b, 301, none⟩ = some (.int .i64 l.length) := by
    intro W hW
    obtain ⟨f, o, ho, hl, hr, hf⟩ := hW
    exact hr.cc
  have h1 := hcc w h
  have h1' : ∀ o, (w.alloc o).cell? ⟨b, 301, none⟩ = some (.int .i64 l.length) := fun o => hcc _ (h.later (bal (Below.refl _ _) o))
  have HT : Hid (∀ j, j < l.length → l.take (j + 1) = l.take j ++ [l.getD j s0]) := fun j hj => take_snocS hj
  have HL : Hid (∀ j, j ≤ l.length → (l.take j).length = j) := fun j hj => by rw [List.length_take]; omega
  have hat := at_any b l k now
  generalize hn : l.length = n at *
  clear hn
  clear hcc
  go_enter Try.func17, Try.ntmps17
  go_wp2
  go_loopw [10, 3] (fun i v wr => ∃ j : Nat, j ≤ n ∧ i = .int .i64 j ∧ Own wr w.heap.size v (l.take j) ∧ Below w.heap.size w wr) (fun i _ _ => n - (intOf i).toNat)
  case atStart => exact ⟨0, by omega, rfl, World.ownsRow_made w #[] 0 (Nat.le_refl _) (Nat.zero_le _) (by simp), bal (Below.refl _ _) _⟩
  case round =>
    obtain ⟨j, hj, rfl, ho, hb⟩ := hrel
    by_cases hlt : j < n
    · have hs := hat j wr (h.later hb) hlt
      have HN : Hid (l.take (j + 1) = l.take j ++ [l.getD j s0]) := HT.out j hlt
      have hlj : (l.take j).length = j := HL.out j hj
      generalize l.getD j s0 = s at *
      generalize l.take j = r at *
      go_wp2_with fail
      refine hs.mono ?_
      rintro e w1 ⟨rfl, hb1⟩
      have ho1 := (ho.later hb1).later (bal (Below.refl _ _) (.cells #[.int .i64 s.1, .bool s.2.1, .int .i64 s.2.2] 38))
      have hx := BoxS.new w1 s
      have hb2 := bal (Below.chain hb hb1) (.cells #[.int .i64 s.1, .bool s.2.1, .int .i64 s.2.2] 38)
      go_wp2_with (at_builtin; go_must (refine wpList_append_own _ rfl _ _ 27 rfl w.heap.size 38 i0 (sv s0) 3 24 Try.underlying27 hi hz0 hz1 hz2 zeroS (by decide) _ _ _ rfl ho1 ⟨w1.heap.size, 0, none⟩ 1 1 (cellsS [s]) rfl rfl ?hnews (cellsS_one _) ?h63 ?hby ?hbs ?_))
      case hnews => exact fun i u hu => hx.cells i u hu
      case h63 => unfold maxLen; omega
      case hby => omega
      case hbs => exact hb2.size
      intro v' w2 ho4 hg4 _
      go_wp2
      go_roundw
      case rel => exact ⟨j + 1, by omega, by go_num, by rw [HN.out]; exact Own.snoc (by rw [hlj]; exact ho4), hb2.grown hg4 hb2.size (fun k hk => (World.ownsRow.lt ho1 k hk).1)⟩
      case measure => simp [intOf]; omega
    · obtain rfl : j = n := by omega
      rw [HA.out j (Nat.le_refl _)] at ho
      go_wp2
      go_ret
      exact ⟨_, rfl, ho, hb⟩

theorem Rl.len {w : World} {b : Nat} {l : List Smp} {k now : Int} (h : Rl w b l k now) : l.length ≤ 100 := by
  obtain ⟨f, o, ho, hl, hr, hf⟩ := h
  exact hl
theorem Rl.count {w : World} {b : Nat} {l : List Smp} {k now : Int} (h : Rl w b l k now) : w.cell? ⟨b, 301, none⟩ = some (.int .i64 l.length) := by
  obtain ⟨f, o, ho, hl, hr, hf⟩ := h
  exact hr.cc
theorem Box.kept {w w' : World} {b : Nat} {o : Bool} {n : Int} (h : Box w b o n) {row : Option Nat} (hg : w.grownBy w' row) (hne : some b ≠ row) : Box w' b o n :=
  ⟨grown_cell hg h.c0 hne, grown_cell hg h.c1 hne, grown_frozen hg h.lt h.f0 hne, grown_frozen hg h.lt h.f1 hne⟩
theorem vls_snoc {l : List Smp} {j : Nat} (h : j < l.length) : vls (l.take (j + 1)) = vls (l.take j) ++ [(l.getD j s0).2] := by
  rw [take_snocS h]
  simp [vls]
set_option maxHeartbeats 2000000 in
theorem sumR_any (b : Nat) (l : List Smp) (k now : Int) (w : World) (h : Rl w b l k now) (hw : ∀ s ∈ l, R64 s.2.2) :
    Calls Try.prog 18 #[.pointer (some ⟨b, 0, none⟩)] w fun e w' => e = .returned (.agg #[.bool (ov (fSum (cnts (vls l)))), .int .i64 (nn (fSum (cnts (vls l))))]) ∧ Below w.heap.size w w' := by
  obtain ⟨i0, hi, hz0, hz1, hz2⟩ := infoN_parts
  have hlen := h.len
  have hb0 := bal (Below.refl _ w) (.cells #[.bool false, .int .i64 0] 31)
  have hx0 := Box.new w false 0
  have hfd := field_v
  have HA : Hid (vls (l.take l.length) = vls l) := by show _ = _; rw [List.take_of_length_le (Nat.le_refl _)]
  have h1' : ∀ o, ((w.alloc (.cells #[.bool false, .int .i64 0] 31)).alloc o).cell? ⟨b, 301, none⟩ = some (.int .i64 l.length) := fun o => (h.later (bal hb0 o)).count
  have HT : Hid (∀ j, j < l.length → vls (l.take (j + 1)) = vls (l.take j) ++ [(l.getD j s0).2]) := fun j hj => vls_snoc hj
  have HL : Hid (∀ j, j ≤ l.length → (vls (l.take j)).length = j) := fun j hj => by unfold vls; rw [List.length_map, List.length_take]; omega
  have hat := at_any b l k now
  have hsum : ∀ ao cap W, Ns W ao l.length (vls l) → _ := fun ao cap W hn => sum_any ao l.length cap (vls l) W (by omega) hn (by
    intro x hx
    obtain ⟨s, hs, rfl⟩ := List.mem_map.1 hx
    exact hw s hs)
  have HV : Hid ((vls l).length = l.length) := by show _ = _; simp [vls]
  generalize hn : l.length = n at *
  clear hn hw
  go_enter Try.func18, Try.ntmps18
  go_wp2
  go_loopw [10, 3] (fun i v wr => ∃ j : Nat, j ≤ n ∧ i = .int .i64 j ∧ OwnN wr (w.heap.size + 1) v (vls (l.take j)) ∧ Box wr w.heap.size false 0 ∧ Below w.heap.size w wr) (fun i _ _ => n - (intOf i).toNat)
  case atStart => exact ⟨0, by omega, rfl, by rw [show w.heap.size + 1 = (w.alloc (.cells #[.bool false, .int .i64 0] 31)).heap.size by simp]; exact World.ownsRow_made _ #[] 0 (Nat.le_refl _) (Nat.zero_le _) (by simp), hx0.later (bal (Below.refl _ _) _), bal hb0 _⟩
  case round =>
    obtain ⟨j, hj, rfl, ho, hx, hb⟩ := hrel
    have hxl := hx.lt
    by_cases hlt : j < n
    · have hs := hat j wr (h.later hb) hlt
      have HN : Hid (vls (l.take (j + 1)) = vls (l.take j) ++ [(l.getD j s0).2]) := HT.out j hlt
      have hlj : (vls (l.take j)).length = j := HL.out j hj
      generalize l.getD j s0 = s at *
      generalize vls (l.take j) = r at *
      obtain ⟨t, s1, s2⟩ := s
      dsimp only at *
      go_wp2_with fail
      refine hs.mono ?_
      rintro e w1 ⟨rfl, hb1⟩
      have ho1 := (ho.later hb1).later (bal (Below.refl _ _) (.cells #[.bool s1, .int .i64 s2] 31))
      have hx1 := Box.new w1 s1 s2
      have hx2 := (hx.later hb1).later (bal (Below.refl _ _) (.cells #[.bool s1, .int .i64 s2] 31))
      have hb2 := bal (Below.chain hb hb1) (.cells #[.bool s1, .int .i64 s2] 31)
      have hsz : w.heap.size + 1 ≤ (w1.alloc (.cells #[.bool s1, .int .i64 s2] 31)).heap.size := by have := hx2.lt; omega
      go_wp2_with (at_builtin; go_must (refine wpList_append_own _ rfl _ _ 42 rfl (w.heap.size + 1) 31 i0 (.agg #[.bool false, .int .i64 0]) 2 16 Try.underlying42 hi hz0 hz1 hz2 zeroN (by decide) _ _ _ rfl ho1 ⟨w1.heap.size, 0, none⟩ 1 1 (cellsN [(s1, s2)]) rfl rfl ?hnews (cellsN_one _) ?h63 ?hby ?hbs ?_))
      case hnews => exact fun i u hu => Box.cellsN (x := (s1, s2)) hx1 i u hu
      case h63 => unfold maxLen; omega
      case hby => omega
      case hbs => exact hsz
      intro v' w2 ho4 hg4 _
      have hx4 := hx2.kept hg4 (fun e => by have := (World.ownsRow.lt ho1 _ e.symm).1; omega)
      go_wp2
      go_roundw
      case rel => exact ⟨j + 1, by omega, by go_num, by rw [HN.out]; exact OwnN.snoc (by rw [hlj]; exact ho4), hx4, hb2.grown hg4 hb2.size (fun k hk => by have := (World.ownsRow.lt ho1 k hk).1; omega)⟩
      case measure => simp [intOf]; omega
    · obtain rfl : j = n := by omega
      rw [HA.out] at ho
      obtain ⟨ao, cap, rfl, hns⟩ := ho.slice
      rw [HV.out] at hns ⊢
      have hs := hsum ao cap wr hns
      generalize hfo : ov (fSum (cnts (vls l))) = fo at *
      generalize hfn : nn (fSum (cnts (vls l))) = fn at *
      have HFo : Hid (ov (fSum (cnts (vls l))) = fo) := hfo
      have HFn : Hid (nn (fSum (cnts (vls l))) = fn) := hfn
      clear hfo hfn
      go_wp2_with fail
      refine hs.mono ?_
      rintro e w1 ⟨rfl, hb1⟩
      have hx1 := hx.later hb1
      obtain ⟨c0, c1, g0, g1⟩ := id hx1
      obtain ⟨p0, p1, _, _⟩ := hx1.put (p := fo) (m := fn)
      go_wp2
      exact bodyPost_ret (v := .agg #[.bool fo, .int .i64 fn]) (by simp [results, Try.results18, go_sem, p0, p1]) rfl ⟨by rw [HFo.out, HFn.out], put2 (Below.chain hb hb1) (Nat.le_refl _) _ _⟩

/-- The mean of samples. -/
def avgP (l : List Smp) : Option Int := fDiv (fSum (cnts (vls l))) (fOf l.length)
theorem quo_r64 (l : List Smp) (n : Nat) : R64 (nn (fSum (cnts (vls l)))) ∧ R64 (nn (fOf n)) ∧ V (fSum (cnts (vls l))) ∧ V (fOf n) := ⟨V.r64 (V.sum _), V.r64 (V.norm _), V.sum _, V.norm _⟩
set_option maxHeartbeats 2000000 in
theorem avg_any (b : Nat) (l : List Smp) (k now : Int) (w : World) (h : Rl w b l k now) (hv : ∀ s ∈ l, R64 s.2.2) :
    Calls Try.prog 15 #[.pointer (some ⟨b, 0, none⟩)] w fun e w' => e = .returned (if l.isEmpty = true then .tuple #[.agg #[.bool false, .int .i64 0], .bool false] else .tuple #[.agg #[.bool (ov (avgP l)), .int .i64 (nn (avgP l))], .bool true]) ∧ Below w.heap.size w w' := by
  have hlen := h.len
  have hb0 := bal (Below.refl _ w) (.cells #[.bool false, .int .i64 0] 31)
  have hx0 := Box.new w false 0
  have hR1 := (h.later hb0)
  have hbl := h.lt
  have hc1 := hR1.count
  cases hle : l with
  | nil =>
    subst hle
    clear hR1
    go_enter Try.func15, Try.ntmps15
    go_wp2
    exact bodyPost_ret (v := .tuple #[.agg #[.bool false, .int .i64 0], .bool false]) (by simp [results, Try.results15, go_sem]) rfl ⟨rfl, hb0⟩
  | cons y ys =>
    rw [← hle]
    have hne : l.isEmpty = false := by rw [hle]; rfl
    have hpos : 0 < l.length := by rw [hle]; simp
    rw [hne, if_neg (by decide)]
    unfold avgP
    have hC : ∀ W, Rl W b l k now → W.cell? ⟨b, 301, none⟩ = some (.int .i64 l.length) := fun W hW => hW.count
    have hq := quo_r64 l l.length
    obtain ⟨_, _, hv1, hv2⟩ := id hq
    have h2 : ((l.length : Int) == 0) = false := by rw [beq_eq_false_iff_ne]; omega
    clear hle hne
    generalize hn : l.length = n at *
    clear hn
    go_enter Try.func15, Try.ntmps15
    go_wp2_with fail
    generalize w.alloc (.cells #[.bool false, .int .i64 0] 31) = wa at *
    have hR1 : Rl wa.drew b l k now := hR1.later (Below.refl _ _).drew
    have hx0 : Box wa.drew w.heap.size false 0 := hx0.later (Below.refl _ _).drew
    have hb0 : Below w.heap.size w wa.drew := hb0.trans (Below.refl _ _).drew
    have h301 : wa.drew.cell? ⟨b, 301, none⟩ = some (.int .i64 n) := hc1
    have hS0 : (fun W : World => W.cell? ⟨b, 301, none⟩ = some (Value.int .i64 n)) _ := h301
    refine wp_region_noPanic ?_
    refine wp_region_held_drew (S := fun W : World => W.cell? ⟨b, 301, none⟩ = some (Value.int .i64 n)) (by kernel_rfl) hS0 (fun _ => ?_)
    refine take_at 0 (some 10) (.pointer (some ⟨b, 0, none⟩)) rfl rfl (by kernel_rfl) (by kernel_rfl) (by kernel_rfl) (fun _ _ _ h => h) (by rfl) (fun W hSw => by have q0 : W.cell? ⟨b, 301, none⟩ = some (Value.int .i64 n) := hSw; go_simp) hS0 ?_
    simp only [Act.put, List.setIfInBounds_toArray, List.set_cons_zero, List.set_cons_succ]
    refine take_at 2 (some 12) (.pointer (some ⟨b, 0, none⟩)) rfl rfl (by kernel_rfl) (by kernel_rfl) (by kernel_rfl) (fun _ _ _ h => h) (by rfl) (fun W hSw => by have q0 : W.cell? ⟨b, 301, none⟩ = some (Value.int .i64 n) := hSw; go_simp) hS0 ?_
    simp only [Act.put, List.setIfInBounds_toArray, List.set_cons_zero, List.set_cons_succ]
    refine take_at 3 (some 13) (.pointer (some ⟨b, 0, none⟩)) rfl rfl (by kernel_rfl) (by kernel_rfl) (by kernel_rfl) (fun _ _ _ h => h) (by rfl) (fun W hSw => by have q0 : W.cell? ⟨b, 301, none⟩ = some (Value.int .i64 n) := hSw; go_simp) hS0 ?_
    simp only [Act.put, List.setIfInBounds_toArray, List.set_cons_zero, List.set_cons_succ]
    refine take_at 4 (some 14) (.pointer (some ⟨b, 301, none⟩)) rfl rfl (by kernel_rfl) (by kernel_rfl) (by kernel_rfl) (fun _ _ _ h => h) (by rfl) (fun W hSw => by have q0 : W.cell? ⟨b, 301, none⟩ = some (Value.int .i64 n) := hSw; go_simp) hS0 ?_
    simp only [Act.put, List.setIfInBounds_toArray, List.set_cons_zero, List.set_cons_succ]
    refine take_at 5 (some 15) (.int .i64 n) rfl rfl (by kernel_rfl) (by kernel_rfl) (by kernel_rfl) (fun _ _ _ h => h) (by rfl) (fun W hSw => by have q0 : W.cell? ⟨b, 301, none⟩ = some (Value.int .i64 n) := hSw; go_simp) hS0 ?_
    simp only [Act.put, List.setIfInBounds_toArray, List.set_cons_zero, List.set_cons_succ]
    refine wpAnyH_ready (rs := [1]) (by kernel_rfl) (by simp) ?_
    refine AllReadyH.cons rfl (fun K hK => ?_) AllReadyH.nil
    go_simp
    refine (sumR_any b l k now _ hR1 hv).mono ?_
    rintro e w1 ⟨rfl, hb1⟩
    have hR2 := hR1.later hb1
    have hS1 := (hC w1 hR2)
    refine hK.out _ _ hS1 (fun _ => ?_)
    clear hK K
    refine wpAnyH_ready (rs := [6]) (by kernel_rfl) (by simp) ?_
    refine AllReadyH.cons rfl (fun K hK => ?_) AllReadyH.nil
    go_simp
    refine (of_any n _ (by unfold R64; omega)).mono ?_
    rintro e w2 ⟨rfl, hb2⟩
    have hR3 := hR2.later hb2
    have hS2 := (hC w2 hR3)
    refine hK.out _ _ hS2 (fun _ => ?_)
    clear hK K
    refine wpAnyH_ready (rs := [7]) (by kernel_rfl) (by simp) ?_
    refine AllReadyH.cons rfl (fun K hK => ?_) AllReadyH.nil
    go_simp
    refine (quo_any _ _ _ _ _ hq.1 hq.2.1).mono ?_
    rw [cnt_val hv1, cnt_val hv2]
    rintro e w3 ⟨rfl, hb3⟩
    have hR4 := hR3.later hb3
    have hS3 := (hC w3 hR4)
    refine hK.out _ _ hS3 (fun _ => ?_)
    clear hK K
    have hbx := ((hx0.later hb1).later hb2).later hb3
    obtain ⟨c0, c1, g0, g1⟩ := id hbx
    obtain ⟨p0, p1, _, _⟩ := hbx.put (p := ov (fDiv (fSum (cnts (vls l))) (fOf n))) (m := nn (fDiv (fSum (cnts (vls l))) (fOf n)))
    have hb5 := put2 (Below.chain (Below.chain (Below.chain hb0 hb1) hb2) hb3) (Nat.le_refl _) (ov (fDiv (fSum (cnts (vls l))) (fOf n))) (nn (fDiv (fSum (cnts (vls l))) (fOf n)))
    have hR5 := hR4.kept ((grown_set w3 w.heap.size 0 (.bool (ov (fDiv (fSum (cnts (vls l))) (fOf n))))).trans (grown_set _ w.heap.size 1 (.int .i64 (nn (fDiv (fSum (cnts (vls l))) (fOf n)))))) (by simp; omega)
    refine wpAnyH_ready (rs := [8]) (by kernel_rfl) (by simp) ?_
    refine AllReadyH.cons rfl (fun K hK => ?_) AllReadyH.nil
    go_simp
    have hS4 := (hC _ hR5)
    refine hK.out _ _ hS4 (fun _ => ?_)
    clear hK K
    refine wpAnyH_ready (rs := [9]) (by kernel_rfl) (by simp) ?_
    refine AllReadyH.cons rfl (fun K hK => ?_) AllReadyH.nil
    go_simp
    have hS5 := (hC _ hR5)
    refine hK.out _ _ hS5 (fun _ => ?_)
    clear hK K
    refine wpAnyH_done (by kernel_rfl) ?_ _
    refine NoPanic.normal ?_
    go_wp2
    exact bodyPost_ret (v := .tuple #[.agg #[.bool (ov (fDiv (fSum (cnts (vls l))) (fOf n))), .int .i64 (nn (fDiv (fSum (cnts (vls l))) (fOf n)))], .bool true]) (by simp [results, Try.results15, go_sem, p0, p1]) rfl ⟨rfl, hb5⟩

theorem cnt_r64 {o : Bool} {n : Int} (h : R64 n) : V (cnt o n) := V.cnt h.1 h.2
set_option maxHeartbeats 2000000 in
theorem delta_any (b : Nat) (l : List Smp) (k now : Int) (w : World) (h : Rl w b l k now) (hv : ∀ s ∈ l, R64 s.2.2) :
    Calls Try.prog 22 #[.pointer (some ⟨b, 0, none⟩)] w fun e w' => e = .returned (if l.length < 2 then .tuple #[.agg #[.bool false, .int .i64 0], .bool false] else .tuple #[.agg #[.bool (ov (dltP l)), .int .i64 (nn (dltP l))], .bool true]) ∧ Below w.heap.size w w' := by
  have hlen := h.len
  have hb0 := bal (Below.refl _ w) (.cells #[.bool false, .int .i64 0] 31)
  have hx0 := Box.new w false 0
  have hR1 := (h.later hb0)
  have hc1 := hR1.count
  by_cases hle : l.length < 2
  · rw [if_pos hle]
    have h2 : decide ((l.length : Int) < 2) = true := decide_eq_true (by omega)
    clear hR1 hle hv
    generalize l.length = n at *
    go_enter Try.func22, Try.ntmps22
    go_wp2
    exact bodyPost_ret (v := .tuple #[.agg #[.bool false, .int .i64 0], .bool false]) (by simp [results, Try.results22, go_sem]) rfl ⟨rfl, hb0⟩
  · rw [if_neg hle]
    have h2 : decide ((l.length : Int) < 2) = false := decide_eq_false (by omega)
    have hfd := field_v
    have hat := at_any b l k now
    have HD : Hid (dltP l = fAdd (cnt (lst l).2.1 (lst l).2.2) (fNeg (cnt (l.getD 0 s0).2.1 (l.getD 0 s0).2.2))) := rfl
    have HL : Hid (l.getD (l.length - 1) s0 = lst l) := rfl
    have hm1 : lst l ∈ l := lst_mem (by intro e; rw [e] at hle; simp at hle)
    have hm0 : l.getD 0 s0 ∈ l := by
      rw [List.getD_eq_getElem?_getD, List.getElem?_eq_getElem (by omega)]
      exact List.getElem_mem _
    have r1 := hv _ hm1
    have r0 := hv _ hm0
    clear hm1 hm0 hv
    generalize hn : l.length = n at *
    clear hn
    obtain ⟨m, rfl⟩ : ∃ m, n = m + 1 := ⟨n - 1, by omega⟩
    have hc1' : (w.alloc (.cells #[.bool false, .int .i64 0] 31)).cell? ⟨b, 301, none⟩ = some (.int .i64 ((m : Int) + 1)) := hc1
    clear hc1
    have h2' : decide ((m : Int) + 1 < 2) = false := h2
    have e1 : wrap64 ((m : Int) + 1 - 1) = (m : Int) := by unfold wrap64; omega
    have e2 : wrap64 (m : Int) = (m : Int) := by unfold wrap64; omega
    have hs1 := hat m _ hR1 (by omega)
    rw [show m = m + 1 - 1 by omega, HL.out] at hs1
    rw [show m + 1 - 1 = m by omega] at hs1
    have hs0 := fun W hW => hat 0 W hW (by omega)
    clear hat
    generalize lst l = x at *
    generalize l.getD 0 s0 = y at *
    obtain ⟨xt, xo, xn⟩ := x
    obtain ⟨yt, yo, yn⟩ := y
    dsimp only at *
    go_enter Try.func22, Try.ntmps22
    go_wp2_with fail
    refine hs1.mono ?_
    rintro e w1 ⟨rfl, hb1⟩
    have hR2 := hR1.later hb1
    go_wp2_with fail
    refine (hs0 _ hR2).mono ?_
    rintro e w2 ⟨rfl, hb2⟩
    go_wp2_with fail
    refine (sub_any xo yo xn yn _ r1 r0).mono ?_
    rintro e w3 ⟨rfl, hb3⟩
    generalize fAdd (cnt xo xn) (fNeg (cnt yo yn)) = q at *
    have hbx := ((hx0.later hb1).later hb2).later hb3
    obtain ⟨c0, c1, g0, g1⟩ := id hbx
    obtain ⟨p0, p1, _, _⟩ := hbx.put (p := ov q) (m := nn q)
    go_wp2
    exact bodyPost_ret (v := .tuple #[.agg #[.bool (ov q), .int .i64 (nn q)], .bool true]) (by simp [results, Try.results22, go_sem, p0, p1]) rfl ⟨by rw [HD.out], put2 (Below.chain (Below.chain (Below.chain hb0 hb1) hb2) hb3) (Nat.le_refl _) _ _⟩
end Go.Proofs.Ytchopogodfghoaa
