/- RelabelTells: for every input the law returns true, and its arguments read as they did: the walk, the opening of what is handed in, the row, and its card, tied to the program's text. Conditions: none beyond the card's own. -/
import Derived.Test.YtideieolgjhbiaaGreatDoorRefApply
import Derived.Test.YtideieolgjhbiaaGreatDoorKnownR
import Derived.ProofKit
import Derived.OpenShut
import Derived.LaidMore
import Derived.Lay
import Derived.SevenTiedAt
import Derived.Stop.Joined
import Derived.Lib.SmallJoins
import Derived.Lib.LaidTab
import Derived.Stop.LaidErr
import Derived.ChangeMaps5
import Derived.Deep.SlicePairs
import Derived.SliceStrings
import Derived.HandedShaped
import Derived.Shelf.Vars
import Derived.Test.YtideieolgjhbiaaGreatDoorTie
import Derived.Test.YtideieolgjhbiaaGreatDoorCards
namespace Go.Proofs.YtideieolgjhbiaaGreatDoor
open Go.RowKit

/-- How long what comes of it can be. -/
theorem apply_short {l : List Pr} {rs : List Rl} : (fApply l rs).1.length ≤ 8 := by
  unfold fApply
  split
  · split
    · rename_i h
      cases hk : (apAll l rs).2.1 with
      | true => exact (is_short (apAll_is h hk)).1
      | false => rw [apAll_no hk]; simp
    · simp
  · simp
set_option maxRecDepth 200000 in
set_option maxHeartbeats 8000000 in
theorem tells_any (xa : Option Addr) (n c : Nat) (l : List Pr) (ya : Option Addr) (m d : Nat) (rs : List Rl) (w : World) (hn : n ≤ 9223372036854775807) (hmm : m ≤ 9223372036854775807) (hf : Fit l) (hfr : FitRs rs) (hx : Ps w xa n l) (hy : Rs w ya m rs) (hm : Mx w) :
    Calls Tryz.prog 3 #[.slice xa n c, .slice ya m d] w fun e w' => e = .returned (.bool true) ∧ Below w.heap.size w w' := by
  have hkn := known_any w hm
  have hfw := fun W (hW : Below w.heap.size w W) => few_any xa n c l ya m d rs W hn hmm hfr hx.1 (hy.later hW)
  have HW : Hid (fewB l rs = true → n ≤ 12 ∧ m ≤ 12) := fun h => by
    unfold fewB at h
    rw [Bool.and_eq_true, Bool.and_eq_true, decide_eq_true_iff, decide_eq_true_iff] at h
    rw [← hx.1, ← hy.1]; exact h.2
  cases hfe : fewB l rs with
  | false =>
    rw [hfe] at hfw
    clear hfe HW
    go_enter Tryz.func3, Tryz.ntmps3
    go_wp2_with fail
    refine hkn.mono ?_
    rintro e w1 ⟨rfl, hb1⟩
    go_wp2_with fail
    refine (hfw _ hb1).mono ?_
    rintro e w2 ⟨rfl, rfl⟩
    go_wp2_with fail
    go_ret
    exact ⟨rfl, hb1⟩
  | true =>
  rw [hfe] at hfw
  obtain ⟨h12, hm12⟩ := HW.out hfe
  clear hfe HW
  have hap := fun W (hW : Below w.heap.size w W) => apply_any xa n c l ya m d rs W (by omega) hmm hf hfr (hx.later hW) (hy.later hW) (hm.later hW)
  have hre := fun W (hW : Below w.heap.size w W) => refApply_any xa n c l ya m d rs W (by omega) hmm hf hfr (hx.later hW) (hy.later hW)
  have hsm := fun (s : List Pr) W ao M cap ao' M' cap' (h1 : Ps W ao M s) (h2 : Ps W ao' M' s) (hs : s.length ≤ 8) => same_any ao M cap s ao' M' cap' s W (by rw [← h1.1]; omega) (by rw [← h2.1]; omega) h1 h2
  have hsh : (fApply l rs).1.length ≤ 8 := apply_short
  generalize fApply l rs = F at *
  obtain ⟨s, fk, fe⟩ := F
  dsimp only at *
  have hsm' := fun W ao M cap ao' M' cap' h1 h2 => by
    have h := hsm s W ao M cap ao' M' cap' h1 h2 hsh
    rw [show sameB s s = true from decide_eq_true rfl] at h
    exact h
  have hfk : (fk == fk) = true := by simp
  have hfe : (fe == fe) = true := by simp
  obtain ⟨hlen, hcell⟩ := hy
  have HL : Hid (rs.length = m) := hlen
  clear hlen hsm hx hf
  go_enter Tryz.func3, Tryz.ntmps3
  go_wp2_with fail
  refine hkn.mono ?_
  rintro e w1 ⟨rfl, hb1⟩
  go_wp2_with fail
  refine (hfw _ hb1).mono ?_
  rintro e w2 ⟨rfl, rfl⟩
  go_wp2_with fail
  refine (hap _ hb1).mono ?_
  rintro e w3 ⟨ao3, N3, cap3, rfl, hps3, hb3⟩
  have B3 := Below.chain hb1 hb3
  go_wp2_with fail
  refine (hre _ B3).mono ?_
  rintro e w4 ⟨ao4, N4, cap4, rfl, hps4, hb4⟩
  have B4 := Below.chain B3 hb4
  have hps34 := hps3.later hb4
  clear hkn hfw hap hre hb1 hb3 hb4 B3 hps3
  go_wp2_with fail
  go_loopw [11] (fun i W => ∃ j : Nat, j ≤ m ∧ i = .int .i64 j ∧ Below w4.heap.size w4 W) (fun i _ => m - (intOf i).toNat)
  case atStart => exact ⟨0, by omega, rfl, Below.refl _ _⟩
  case round =>
    obtain ⟨j, hj, rfl, hb⟩ := hrel
    have hbw := Below.chain B4 hb
    by_cases hlt : j < m
    · obtain ⟨b, off, rfl, hc⟩ := hcell (by omega)
      obtain ⟨d0, d1, d2, d3, d4, d5⟩ := hc j hlt
      have k0 := cell_later d0 hbw
      have k1 := cell_later d1 hbw
      have k2 := cell_later d2 hbw
      have k3 := cell_later d3 hbw
      have k4 := cell_later d4 hbw
      have k5 := cell_later d5 hbw
      have hfj := hfr.at j
      clear hc hcell d0 d1 d2 d3 d4 d5
      generalize rs.getD j rl0 = r at *
      have h1 := fun W => isR_any r W hfj
      have h2 := fun W => refRule_any r W hfj
      have h3 := fun W (hW : Below wr.heap.size wr W) => printR_any r W hfj (hm.later (Below.chain hbw hW))
      have h4 := fun W => printRule_any r W hfj
      generalize fRule r = fr at *
      generalize fPrintR r = pt at *
      have hp1 : (pt != pt) = false := by simp
      have hp2 : (pt == pt) = true := by simp
      have hf1 : (fr != fr) = false := by simp
      clear hfj
      obtain ⟨act, ⟨nn, kk, tt⟩, tgt, txt⟩ := r
      dsimp only at *
      go_wp2_with fail
      · skip
        have C0 : Below wr.heap.size wr wr.drew := (Below.refl _ _).drew
        refine wp_region_noPanic ?_
        refine wp_region_held_drew (S := fun W => Below wr.heap.size wr W) (by kernel_rfl) ?_ (fun _ => ?_)
        · exact C0
        generalize wr.drew = wd at *
        refine take_at 0 (some 38) (.slice (some ⟨b, off, none⟩) m d) rfl rfl (by kernel_rfl) (by kernel_rfl) (by kernel_rfl) (fun _ _ _ h => h) (by rfl) (fun W hSw => by go_simp) C0 ?_
        simp only [Act.put, List.setIfInBounds_toArray, List.set_cons_zero, List.set_cons_succ]
        refine take_at 1 (some 39) (.int .i64 j) rfl rfl (by kernel_rfl) (by kernel_rfl) (by kernel_rfl) (fun _ _ _ h => h) (by rfl) (fun W hSw => by go_simp) C0 ?_
        simp only [Act.put, List.setIfInBounds_toArray, List.set_cons_zero, List.set_cons_succ]
        refine take_at 2 (some 40) (.pointer (some ⟨b, off + j * 6, none⟩)) rfl rfl (by kernel_rfl) (by kernel_rfl) (by kernel_rfl) (fun _ _ _ h => h) (by rfl) (fun W hSw => by go_simp) C0 ?_
        simp only [Act.put, List.setIfInBounds_toArray, List.set_cons_zero, List.set_cons_succ]
        refine take_at 3 (some 41) (.agg #[.int .i64 act, tx nn, .int .i64 kk, tx tt, tx tgt, tx txt]) rfl rfl (by kernel_rfl) (by kernel_rfl) (by kernel_rfl) (fun _ _ _ h => h) (by rfl) (fun W hSw => by have c0 := cell_later k0 hSw; have c1 := cell_later k1 hSw; have c2 := cell_later k2 hSw; have c3 := cell_later k3 hSw; have c4 := cell_later k4 hSw; have c5 := cell_later k5 hSw; go_simp) C0 ?_
        simp only [Act.put, List.setIfInBounds_toArray, List.set_cons_zero, List.set_cons_succ]
        refine take_at 5 (some 43) (.slice (some ⟨b, off, none⟩) m d) rfl rfl (by kernel_rfl) (by kernel_rfl) (by kernel_rfl) (fun _ _ _ h => h) (by rfl) (fun W hSw => by go_simp) C0 ?_
        simp only [Act.put, List.setIfInBounds_toArray, List.set_cons_zero, List.set_cons_succ]
        refine take_at 6 (some 44) (.int .i64 j) rfl rfl (by kernel_rfl) (by kernel_rfl) (by kernel_rfl) (fun _ _ _ h => h) (by rfl) (fun W hSw => by go_simp) C0 ?_
        simp only [Act.put, List.setIfInBounds_toArray, List.set_cons_zero, List.set_cons_succ]
        refine take_at 7 (some 45) (.pointer (some ⟨b, off + j * 6, none⟩)) rfl rfl (by kernel_rfl) (by kernel_rfl) (by kernel_rfl) (fun _ _ _ h => h) (by rfl) (fun W hSw => by go_simp) C0 ?_
        simp only [Act.put, List.setIfInBounds_toArray, List.set_cons_zero, List.set_cons_succ]
        refine take_at 8 (some 46) (.agg #[.int .i64 act, tx nn, .int .i64 kk, tx tt, tx tgt, tx txt]) rfl rfl (by kernel_rfl) (by kernel_rfl) (by kernel_rfl) (fun _ _ _ h => h) (by rfl) (fun W hSw => by have c0 := cell_later k0 hSw; have c1 := cell_later k1 hSw; have c2 := cell_later k2 hSw; have c3 := cell_later k3 hSw; have c4 := cell_later k4 hSw; have c5 := cell_later k5 hSw; go_simp) C0 ?_
        simp only [Act.put, List.setIfInBounds_toArray, List.set_cons_zero, List.set_cons_succ]
        refine wpAnyH_ready (rs := [4]) (by kernel_rfl) (by simp) ?_
        refine AllReadyH.cons rfl (fun K hK => ?_) AllReadyH.nil
        go_simp
        refine (h1 _).mono ?_
        rintro e wc1 ⟨rfl, hc1⟩
        have C1 := Below.chain C0 hc1
        refine hK.out _ _ ?_ (fun _ => ?_)
        · exact C1
        clear hK K
        refine wpAnyH_ready (rs := [9]) (by kernel_rfl) (by simp) ?_
        refine AllReadyH.cons rfl (fun K hK => ?_) AllReadyH.nil
        go_simp
        refine (h2 _).mono ?_
        rintro e wc2 ⟨rfl, hc2⟩
        have C2 := Below.chain C1 hc2
        refine hK.out _ _ ?_ (fun _ => ?_)
        · exact C2
        clear hK K
        refine take_at 10 (some 48) (.bool false) rfl rfl (by kernel_rfl) (by kernel_rfl) (by kernel_rfl) (fun _ _ _ h => h) (by rfl) (fun W hSw => by go_simp) C2 ?_
        simp only [Act.put, List.setIfInBounds_toArray, List.set_cons_zero, List.set_cons_succ]
        refine take_at 11 (some 49) (.bool false) rfl rfl (by kernel_rfl) (by kernel_rfl) (by kernel_rfl) (fun _ _ _ h => h) (by rfl) (fun W hSw => by go_simp) C2 ?_
        simp only [Act.put, List.setIfInBounds_toArray, List.set_cons_zero, List.set_cons_succ]
        refine take_at 12 (some 50) (.slice (some ⟨b, off, none⟩) m d) rfl rfl (by kernel_rfl) (by kernel_rfl) (by kernel_rfl) (fun _ _ _ h => h) (by rfl) (fun W hSw => by go_simp) C2 ?_
        simp only [Act.put, List.setIfInBounds_toArray, List.set_cons_zero, List.set_cons_succ]
        refine take_at 13 (some 51) (.int .i64 j) rfl rfl (by kernel_rfl) (by kernel_rfl) (by kernel_rfl) (fun _ _ _ h => h) (by rfl) (fun W hSw => by go_simp) C2 ?_
        simp only [Act.put, List.setIfInBounds_toArray, List.set_cons_zero, List.set_cons_succ]
        refine take_at 14 (some 52) (.pointer (some ⟨b, off + j * 6, none⟩)) rfl rfl (by kernel_rfl) (by kernel_rfl) (by kernel_rfl) (fun _ _ _ h => h) (by rfl) (fun W hSw => by go_simp) C2 ?_
        simp only [Act.put, List.setIfInBounds_toArray, List.set_cons_zero, List.set_cons_succ]
        refine take_at 15 (some 53) (.agg #[.int .i64 act, tx nn, .int .i64 kk, tx tt, tx tgt, tx txt]) rfl rfl (by kernel_rfl) (by kernel_rfl) (by kernel_rfl) (fun _ _ _ h => h) (by rfl) (fun W hSw => by have c0 := cell_later k0 hSw; have c1 := cell_later k1 hSw; have c2 := cell_later k2 hSw; have c3 := cell_later k3 hSw; have c4 := cell_later k4 hSw; have c5 := cell_later k5 hSw; go_simp) C2 ?_
        simp only [Act.put, List.setIfInBounds_toArray, List.set_cons_zero, List.set_cons_succ]
        refine take_at 17 (some 55) (.slice (some ⟨b, off, none⟩) m d) rfl rfl (by kernel_rfl) (by kernel_rfl) (by kernel_rfl) (fun _ _ _ h => h) (by rfl) (fun W hSw => by go_simp) C2 ?_
        simp only [Act.put, List.setIfInBounds_toArray, List.set_cons_zero, List.set_cons_succ]
        refine take_at 18 (some 56) (.int .i64 j) rfl rfl (by kernel_rfl) (by kernel_rfl) (by kernel_rfl) (fun _ _ _ h => h) (by rfl) (fun W hSw => by go_simp) C2 ?_
        simp only [Act.put, List.setIfInBounds_toArray, List.set_cons_zero, List.set_cons_succ]
        refine take_at 19 (some 57) (.pointer (some ⟨b, off + j * 6, none⟩)) rfl rfl (by kernel_rfl) (by kernel_rfl) (by kernel_rfl) (fun _ _ _ h => h) (by rfl) (fun W hSw => by go_simp) C2 ?_
        simp only [Act.put, List.setIfInBounds_toArray, List.set_cons_zero, List.set_cons_succ]
        refine take_at 20 (some 58) (.agg #[.int .i64 act, tx nn, .int .i64 kk, tx tt, tx tgt, tx txt]) rfl rfl (by kernel_rfl) (by kernel_rfl) (by kernel_rfl) (fun _ _ _ h => h) (by rfl) (fun W hSw => by have c0 := cell_later k0 hSw; have c1 := cell_later k1 hSw; have c2 := cell_later k2 hSw; have c3 := cell_later k3 hSw; have c4 := cell_later k4 hSw; have c5 := cell_later k5 hSw; go_simp) C2 ?_
        simp only [Act.put, List.setIfInBounds_toArray, List.set_cons_zero, List.set_cons_succ]
        refine wpAnyH_ready (rs := [16]) (by kernel_rfl) (by simp) ?_
        refine AllReadyH.cons rfl (fun K hK => ?_) AllReadyH.nil
        go_simp
        refine (h3 _ C2).mono ?_
        rintro e wc3 ⟨rfl, hc3⟩
        have C3 := Below.chain C2 hc3
        refine hK.out _ _ ?_ (fun _ => ?_)
        · exact C3
        clear hK K
        refine wpAnyH_ready (rs := [21]) (by kernel_rfl) (by simp) ?_
        refine AllReadyH.cons rfl (fun K hK => ?_) AllReadyH.nil
        go_simp
        refine (h4 _).mono ?_
        rintro e wc4 ⟨rfl, hc4⟩
        have C4 := Below.chain C3 hc4
        refine hK.out _ _ ?_ (fun _ => ?_)
        · exact C4
        clear hK K
        refine take_at 22 (some 60) (.bool false) rfl rfl (by kernel_rfl) (by kernel_rfl) (by kernel_rfl) (fun _ _ _ h => h) (by rfl) (fun W hSw => by go_simp) C4 ?_
        simp only [Act.put, List.setIfInBounds_toArray, List.set_cons_zero, List.set_cons_succ]
        refine take_at 23 (some 61) (.bool false) rfl rfl (by kernel_rfl) (by kernel_rfl) (by kernel_rfl) (fun _ _ _ h => h) (by rfl) (fun W hSw => by go_simp) C4 ?_
        simp only [Act.put, List.setIfInBounds_toArray, List.set_cons_zero, List.set_cons_succ]
        refine wpAnyH_done (by kernel_rfl) ?_ _
        refine NoPanic.normal ?_
        have B5 := Below.chain hb C4
        clear C0 C1 C2 C3 C4 hc1 hc2 hc3 hc4 hb
        go_wp2_with fail
        go_roundw
        case rel => exact ⟨j + 1, by omega, by go_num, B5⟩
        case measure => simp [intOf]; omega
    · go_wp2_with fail
      refine (hsm' _ ao3 N3 cap3 ao4 N4 cap4 (hps34.later hb) (hps4.later hb)).mono ?_
      rintro e w6 ⟨rfl, k6, rfl⟩
      go_wp2_with fail
      go_ret
      exact ⟨by simp, below_drewN hbw k6⟩
end Go.Proofs.YtideieolgjhbiaaGreatDoor
namespace Go.Proofs.YtideieolgjhbiaaGreatDoor
open Go.ChangeShapes Go.WideShapes Go.ChangeAt Go.RowKit Go.Deep

theorem laidOut : laidOutB Tryz.prog = true := by kernel_rfl
theorem mx_of {W : World} (h : W.ShapedOpen Tryz.prog) : Mx W :=
  cell_of_shapedOpen_int (g := 0) (t := 3) (zero := #[.int .i64 0]) (k := .i64) h (of_decide_eq_true (by kernel_rfl)) (by kernel_rfl) rfl (by kernel_rfl) (by kernel_rfl) Tryz.underlying3
theorem tx_of (s : ByteArray) : ∃ l : Str, (⟨l.toArray⟩ : ByteArray) = s ∧ l.length = s.size := ⟨s.data.toList, Lib.mk_data s, by rw [Array.length_toList]; rfl⟩
theorem pairs_of {H : Type} {enc : TypeId × Value → H} {W : World} {xa : Option Addr} {len cap : Nat} {x : DataW H × List MemPlace}
    (h : ∃ fuel, DataW.trod enc Tryz.prog W 0 (fun _ => true) true fuel 22 (Value.slice xa len cap).cells.toList = some x) :
    ∃ l, Ps W xa len l ∧ Fit l ∧ len ≤ 9223372036854775807 ∧ len ≤ cap := by
  obtain ⟨fuel, hf⟩ := h
  rcases open_slice_pairs Tryz.underlying22 Tryz.underlying44 (by kernel_rfl) rfl rfl (by kernel_rfl) (by kernel_rfl) hf with ⟨hcs, hx⟩ | ⟨a, len', cap', m, n, V0, V1, D0, D1, P0, P1, hcs, _, hl, hm, hmm, hx, hel⟩
  · simp [Value.cells] at hcs
    obtain ⟨rfl, rfl, rfl⟩ := hcs
    exact ⟨[], Ps.nil _ _, (by intro x hx; cases hx), by omega, by omega⟩
  · simp [Value.cells] at hcs
    obtain ⟨rfl, rfl, rfl⟩ := hcs
    have hm' : m = cap := by simpa using hmm
    subst hm'
    obtain ⟨f, hfp⟩ := choose_lt (α := Pr) (n := len) (p := fun i t => V0 i = tx t.1 ∧ V1 i = tx t.2 ∧ t.1.length ≤ 9223372036854775807 ∧ t.2.length ≤ 9223372036854775807) (fun i hi => by
      obtain ⟨_, _, z0, z1⟩ := hel i (by omega)
      obtain ⟨s0, e0, _, b0⟩ := DataW.trod_string Tryz.underlying9 z0
      obtain ⟨s1, e1, _, b1⟩ := DataW.trod_string Tryz.underlying9 z1
      obtain ⟨l0, q0, n0⟩ := tx_of s0
      obtain ⟨l1, q1, n1⟩ := tx_of s1
      unfold maxLen at b0 b1
      simp at e0 e1
      exact ⟨(l0, l1), by rw [e0, ← q0], by rw [e1, ← q1], by simp; omega, by simp; omega⟩)
    refine ⟨(List.range len).map f, ⟨by simp, fun hp => ?_⟩, ?_, by unfold maxLen at hm; omega, hl⟩
    · obtain ⟨b, off, spot⟩ := a
      have hc := (hel 0 (by omega)).1
      have hspot : spot = none := by simpa [Addr.add] using World.cell?_spot hc
      subst hspot
      refine ⟨b, off, rfl, fun j hj => ?_⟩
      obtain ⟨e1, e2, _⟩ := hfp j hj
      obtain ⟨q0, q1, _, _⟩ := hel j (by omega)
      rw [Addr.add_lit, e1] at q0
      rw [Addr.add_lit, e2] at q1
      have e : ((List.range len).map f).getD j ([], []) = f j := by simp [List.getD, hj]
      rw [e]
      exact ⟨q0, q1⟩
    · intro x hx
      obtain ⟨i, hi, rfl⟩ := List.mem_map.1 hx
      exact (hfp i (List.mem_range.1 hi)).2.2
theorem strs_of {H : Type} {enc : TypeId × Value → H} {W : World} {xa : Option Addr} {len cap : Nat} {x : DataW H × List MemPlace}
    (h : ∃ fuel, DataW.trod enc Tryz.prog W 0 (fun _ => true) true fuel 78 (Value.slice xa len cap).cells.toList = some x) :
    ∃ l, Ss W xa len l ∧ len ≤ 9223372036854775807 := by
  obtain ⟨fuel, hf⟩ := h
  rcases open_strings Tryz.underlying78 Tryz.underlying9 (by kernel_rfl) hf with ⟨hcs, hx⟩ | ⟨a, len', cap', ss, hcs, _, hl, hm, hlen, hx, hel, hw⟩
  · simp [Value.cells] at hcs
    obtain ⟨rfl, rfl, rfl⟩ := hcs
    exact ⟨[], Ss.nil _ _, by omega⟩
  · simp [Value.cells] at hcs
    obtain ⟨rfl, rfl, rfl⟩ := hcs
    have hss : len ≤ ss.length := by rw [hlen]; split <;> omega
    refine ⟨(ss.take len).map (fun s => s.data.toList), ⟨by simp; omega, fun hp => ?_⟩, by unfold maxLen at hm; omega⟩
    obtain ⟨b, off, spot⟩ := a
    have hc := hel 0 (by omega)
    have hspot : spot = none := by simpa [Addr.add] using World.cell?_spot hc
    subst hspot
    refine ⟨b, off, rfl, fun j hj => ?_⟩
    have q0 := hel j (by omega)
    rw [Addr.add_lit] at q0
    rw [q0]
    have hj' : j < ss.length := by omega
    have e : ((ss.take len).map (fun s => s.data.toList)).getD j [] = (ss.getD j ByteArray.empty).data.toList := by
      simp [List.getD, hj, List.getElem?_eq_getElem hj']
    rw [e]

theorem lift_both {H : Type} {enc : TypeId × Value → H} {a : Assume} {C : Checked} {os : Os} {f : FuncId} {fn : Func} {s : ChangeSpec} {conds : List PathCond} {apart fresh handsOn again : Bool} {X : World → Array Value → Prop}
    (own : ownKnob C.prog.godebug = none) (started : os.Started) (noInit : C.prog.inits.idxOf? f = none) (hfn : C.prog.funcs[f]? = some fn)
    (witness : ∃ (w : World) (tape : Tape) (i : Input), w.os = os ∧ (w.forCall tape i).Shaped C.prog ∧ i.vars = [] ∧ Input.okWide C.prog (w.forCall tape i) .any w.heap.size f i ∧
      ((s.pre enc C.prog fn conds apart (w.forCall tape i).memory i.args ∧ X (w.forCall tape i).memory i.args) ∧ sizedMet enc C.prog fn (OpenSpec.ofChange s) apart (w.forCall tape i).memory i.args) ∧ a.holds C.prog (lone (Frame.enter C.prog f i.args .normal) [] (w.forCall tape i)))
    (contract : ∀ (W : World) (base : Nat) (args : Array Value) (ds gs : List (DataW H)) (before : List MemPlace),
      (∀ (j : Nat) t v, fn.params[j]? = some t → args[j]? = some v → Value.okWide C.prog W .any base t v) →
      DataW.Whole enc C.prog fn.params.toList s.vars apart W args.toList ds gs before → W.ShapedOpen C.prog →
      Calls C.prog f args W fun e W' => ∃ v, e = .returned v ∧ s.post enc C.prog fn apart fresh handsOn again W args v W') :
    ReturnsInHanded a C os f .any (fun w args => (s.pre enc C.prog fn conds apart w args ∧ X w args) ∧ sizedMet enc C.prog fn (OpenSpec.ofChange s) apart w args) (s.post enc C.prog fn apart fresh handsOn again) := by
  refine returnsInHanded_of_calls own started noInit witness ?_
  intro w tape i _ hsh _ hok hpre _
  obtain ⟨_, _, _, fn', hfn', _, _, _, _, hval⟩ := hok
  have e : fn' = fn := Option.some.inj (hfn'.symm.trans hfn)
  subst e
  obtain ⟨⟨⟨ds, gs, before, hw, hc⟩, hx⟩, hz⟩ := hpre
  have hw' := DataW.Whole.of_heap (w' := w.forCall tape i) (by rfl) hw
  refine (contract (w.forCall tape i) w.heap.size i.args ds gs before hval hw' hsh).mono fun e W' ⟨v, he, hp⟩ => ?_
  subst he
  exact ChangeSpec.post_blind hp
end Go.Proofs.YtideieolgjhbiaaGreatDoor
namespace Go.Proofs.YtideieolgjhbiaaGreatDoor
open Go.ChangeShapes Go.WideShapes Go.ChangeAt Go.RowKit Go.Deep

set_option maxRecDepth 100000 in
set_option maxHeartbeats 1000000 in
theorem rule_of {H : Type} {enc : TypeId × Value → H} {W : World} {a : Addr} {cs : List Value} {k : Nat} {x : DataW H × List MemPlace} (h1 : W.cells? 0 a 6 = some cs) (h2 : DataW.trod enc Tryz.prog W 0 (fun _ => true) true k 35 cs = some x) :
    ∃ r : Rl, (W.cell? a = some (.int .i64 r.act) ∧ W.cell? (a.add 1) = some (tx r.frm.name) ∧ W.cell? (a.add 2) = some (.int .i64 r.frm.kind) ∧ W.cell? (a.add 3) = some (tx r.frm.text) ∧ W.cell? (a.add 4) = some (tx r.tgt) ∧ W.cell? (a.add 5) = some (tx r.txt)) ∧ FitR r := by
  obtain ⟨_, hlen, hcell⟩ := World.cells?_some h1
  obtain ⟨v0, v1, v2, v3, v4, v5, rfl⟩ : ∃ v0 v1 v2 v3 v4 v5, cs = [v0, v1, v2, v3, v4, v5] := by
    match cs, hlen with
    | [v0, v1, v2, v3, v4, v5], _ => exact ⟨v0, v1, v2, v3, v4, v5, rfl⟩
  obtain ⟨xs, k', _, _, _, hxl, hfs⟩ := DataW.trod_struct Tryz.underlying35 h2
  obtain ⟨y0, y1, y2, y3, rfl⟩ : ∃ y0 y1 y2 y3, xs = [y0, y1, y2, y3] := by
    match xs, hxl with
    | [y0, y1, y2, y3], _ => exact ⟨y0, y1, y2, y3, rfl⟩
  have g0 := hfs 0 _ rfl
  have g1 := hfs 1 _ rfl
  have g2 := hfs 2 _ rfl
  have g3 := hfs 3 _ rfl
  have k0 : Tryz.prog.cellsOf 9 = 1 := by kernel_rfl
  have k1 : Tryz.prog.cellsOf 3 = 1 := by kernel_rfl
  have k2 : Tryz.prog.cellsOf 33 = 3 := by kernel_rfl
  simp [k0, k1, k2] at g0 g1 g2 g3
  obtain ⟨ys, k'', _, _, _, hyl, hgs⟩ := DataW.trod_struct Tryz.underlying33 g1
  obtain ⟨u0, u1, u2, rfl⟩ : ∃ u0 u1 u2, ys = [u0, u1, u2] := by
    match ys, hyl with
    | [u0, u1, u2], _ => exact ⟨u0, u1, u2, rfl⟩
  have m0 := hgs 0 _ rfl
  have m1 := hgs 1 _ rfl
  have m2 := hgs 2 _ rfl
  simp [k0, k1] at m0 m1 m2
  have e0 := hcell 0 (by omega)
  have e1 := hcell 1 (by omega)
  have e2 := hcell 2 (by omega)
  have e3 := hcell 3 (by omega)
  have e4 := hcell 4 (by omega)
  have e5 := hcell 5 (by omega)
  obtain ⟨n0, z0, _, _⟩ := DataW.trod_int Tryz.underlying3 g0
  obtain ⟨s1, z1, _, b1⟩ := DataW.trod_string Tryz.underlying9 m0
  obtain ⟨n2, z2, _, _⟩ := DataW.trod_int Tryz.underlying3 m1
  obtain ⟨s3, z3, _, b3⟩ := DataW.trod_string Tryz.underlying9 m2
  obtain ⟨s4, z4, _, b4⟩ := DataW.trod_string Tryz.underlying9 g2
  obtain ⟨s5, z5, _, b5⟩ := DataW.trod_string Tryz.underlying9 g3
  obtain ⟨l1, q1, w1⟩ := tx_of s1
  obtain ⟨l3, q3, w3⟩ := tx_of s3
  obtain ⟨l4, q4, w4⟩ := tx_of s4
  obtain ⟨l5, q5, w5⟩ := tx_of s5
  unfold maxLen at b1 b3 b4 b5
  simp at z0 z1 z2 z3 z4 z5
  subst z0 z1 z2 z3 z4 z5
  refine ⟨⟨n0, ⟨l1, n2, l3⟩, l4, l5⟩, ⟨?_, ?_, ?_, ?_, ?_, ?_⟩, ?_, ?_, ?_, ?_⟩
  · simpa [Addr.add] using e0
  · show _ = some (Value.string ⟨l1.toArray⟩); rw [q1]; simpa using e1
  · simpa using e2
  · show _ = some (Value.string ⟨l3.toArray⟩); rw [q3]; simpa using e3
  · show _ = some (Value.string ⟨l4.toArray⟩); rw [q4]; simpa using e4
  · show _ = some (Value.string ⟨l5.toArray⟩); rw [q5]; simpa using e5
  · show l1.length ≤ _; omega
  · show l3.length ≤ _; omega
  · show l4.length ≤ _; omega
  · show l5.length ≤ _; omega
theorem rules_of {H : Type} {enc : TypeId × Value → H} {W : World} {xa : Option Addr} {len cap : Nat} {x : DataW H × List MemPlace}
    (h : ∃ fuel, DataW.trod enc Tryz.prog W 0 (fun _ => true) true fuel 23 (Value.slice xa len cap).cells.toList = some x) :
    ∃ l, Rs W xa len l ∧ FitRs l ∧ len ≤ 9223372036854775807 ∧ len ≤ cap := by
  obtain ⟨fuel, hf⟩ := h
  rcases open_slice Tryz.underlying23 hf with ⟨hcs, _⟩ | ⟨a, len', cap', m, n, D, Pl, hcs, _, hl, hm, hmm, _, hel⟩
  · simp [Value.cells] at hcs
    obtain ⟨rfl, rfl, rfl⟩ := hcs
    exact ⟨[], ⟨rfl, fun h => by omega⟩, (by intro x hx; cases hx), by omega, by omega⟩
  · simp [Value.cells] at hcs
    obtain ⟨rfl, rfl, rfl⟩ := hcs
    have hm' : m = cap := by simpa using hmm
    subst hm'
    have ce : Tryz.prog.cellsOf 35 = 6 := by kernel_rfl
    obtain ⟨f, hfp⟩ := @choose_lt Rl ⟨rl0⟩ len (fun i r => (W.cell? (a.add (i * 6)) = some (.int .i64 r.act) ∧ W.cell? ((a.add (i * 6)).add 1) = some (tx r.frm.name) ∧ W.cell? ((a.add (i * 6)).add 2) = some (.int .i64 r.frm.kind) ∧ W.cell? ((a.add (i * 6)).add 3) = some (tx r.frm.text) ∧ W.cell? ((a.add (i * 6)).add 4) = some (tx r.tgt) ∧ W.cell? ((a.add (i * 6)).add 5) = some (tx r.txt)) ∧ FitR r) (fun i hi => by
      obtain ⟨cs', h1, h2⟩ := hel i (by omega)
      rw [ce] at h1
      exact rule_of h1 h2)
    refine ⟨(List.range len).map f, ⟨by simp, fun hp => ?_⟩, ?_, by unfold maxLen at hm; omega, hl⟩
    · obtain ⟨b, off, spot⟩ := a
      have hc := (hfp 0 (by omega)).1.1
      have hspot : spot = none := by simpa [Addr.add] using World.cell?_spot hc
      subst hspot
      refine ⟨b, off, rfl, fun j hj => ?_⟩
      obtain ⟨⟨e0, e1, e2, e3, e4, e5⟩, _⟩ := hfp j hj
      simp only [Addr.add_lit] at e0 e1 e2 e3 e4 e5
      have e : ((List.range len).map f).getD j rl0 = f j := by simp [List.getD, hj]
      rw [e]
      exact ⟨e0, e1, e2, e3, e4, e5⟩
    · intro x hx
      obtain ⟨i, hi, rfl⟩ := List.mem_map.1 hx
      exact (hfp i (List.mem_range.1 hi)).2
end Go.Proofs.YtideieolgjhbiaaGreatDoor
namespace Go.Proofs.YtideieolgjhbiaaGreatDoor.relabelTellsRow
open Go.ChangeShapes Go.WideShapes Go.ChangeAt Go.RowKit Go.Joins Go.ChangeMaps

theorem own : ownKnob Tryz.prog.godebug = none := by kernel_rfl
set_option maxRecDepth 100000 in
theorem lifted (os : Os) (started : os.Started) (H : Type) (enc : TypeId × Value → H) :
    ReturnsInHanded {} Tryz.checked os 3 .any (fun w args => (Rows.relabelTellsSpec.pre enc Tryz.prog Tryz.f3 Rows.relabelTellsRow.domain false w args ∧ laidMetH Tryz.prog Rows.relabelTellsRow.laid w) ∧ sizedMet enc Tryz.prog Tryz.f3 (OpenSpec.ofChange Rows.relabelTellsSpec) false w args)
      (Rows.relabelTellsSpec.post enc Tryz.prog Tryz.f3 false true false false) := by
  refine lift_both (C := Tryz.checked) (X := fun w _ => laidMetH Tryz.prog Rows.relabelTellsRow.laid w) own started (by kernel_rfl) Tryz.func3
    (ChangeSpec.witness_shaped (enc := enc) (C := Tryz.checked) (os := os) (X := fun w _ => laidMetH Tryz.prog Rows.relabelTellsRow.laid w) false (World.laidAll Tryz.prog os Rows.relabelTellsRow.laid) #[.slice none 0 0, .slice none 0 0] 8 (World.laidAll_os _ _ _)
      (World.shaped_of_ZipB (by kernel_rfl) (by kernel_rfl)) (by kernel_rfl) (by kernel_rfl) (by kernel_rfl)
      (by rw [MakeChecks.laidMetH_plain _ _ _ (by kernel_rfl)]; exact laidMet_laidAll _ (by kernel_rfl) (by kernel_rfl))) ?_
  intro W base args ds gs before hval0 hW hsh
  have hval : ∀ (j : Nat) t v, Tryz.f3.params[j]? = some t → args[j]? = some v → Value.okWide Tryz.prog W .any base t v := hval0
  have hW' := hW
  obtain ⟨p, q, hA0, hV, rfl, hfz, hnd⟩ := hW
  have hA : DataW.TrodAll enc Tryz.prog W 0 (fun _ => true) true Tryz.f3.params.toList args.toList ds p := hA0
  rw [Tryz.params3] at hA hval
  obtain ⟨v0, vs0, d0, ds0, p0, q0, hargs, rfl, rfl, h0, r0⟩ := trodAll_cons hA
  obtain ⟨v1, vs1, d1, ds1, p1, q1, rfl, rfl, rfl, h1, r1⟩ := trodAll_cons r0
  obtain ⟨rfl, rfl, rfl⟩ := trodAll_nil r1
  obtain rfl : args = #[v0, v1] := by cases args; simp_all
  obtain ⟨rfl, rfl⟩ := trodVars_none hV
  have k0 := h0
  have lt0 : ∀ x ∈ p0, x.block < W.heap.size := by obtain ⟨m, hm⟩ := k0; exact DataW.trod_lt m _ _ _ hm
  obtain ⟨xa0, len0, cap0, rfl⟩ := okWide_slice Tryz.underlying22 (hval 0 22 v0 rfl rfl)
  obtain ⟨l0, hs0, hf0, hm0, hcp0⟩ := pairs_of h0
  have k1 := h1
  have lt1 : ∀ x ∈ p1, x.block < W.heap.size := by obtain ⟨m, hm⟩ := k1; exact DataW.trod_lt m _ _ _ hm
  obtain ⟨xa1, len1, cap1, rfl⟩ := okWide_slice Tryz.underlying23 (hval 1 23 v1 rfl rfl)
  obtain ⟨l1, hs1, hf1, hm1, hcp1⟩ := rules_of h1
  clear hA0 hval0
  simp only [List.append_nil] at hW'
  refine (tells_any xa0 len0 cap0 l0 xa1 len1 cap1 l1 W hm0 hm1 hf0 hf1 hs0 hs1 (mx_of hsh)).mono fun e W' ⟨he, hg⟩ => ?_
  subst he
  exact ⟨_, rfl, _, _, _, [], _, [], hW', trodAll_mk1 (shut_bool Tryz.underlying4 _), (trodAll_cons_mk (Below.trod laidOut (by kernel_rfl) (of_decide_eq_true (by kernel_rfl)) k0 hg lt0) (trodAll_cons_mk (Below.trod laidOut (by kernel_rfl) (of_decide_eq_true (by kernel_rfl)) k1 hg lt1) trodAll_mk0)), rfl, hg.frame _, fun h => by cases h⟩

theorem holds : Rows.RelabelTellsSaid :=
  OpenClaim.holds_of_wide 3 Tryz.f3 rfl rfl rfl rfl rfl rfl rfl ⟨rfl, rfl, rfl, rfl, rfl⟩ rfl rfl rfl rfl rfl (by kernel_rfl) Tryz.func3 (by kernel_rfl)
    (of_decide_eq_true (by kernel_rfl)) (by unfold Func.isWrapper; first | (rw [if_pos (by decide +kernel)]; kernel_rfl) | (rw [if_neg (by decide +kernel)]; exact ⟨rfl, rfl⟩))
    (fun os started H enc _ => lifted os started H enc)
end Go.Proofs.YtideieolgjhbiaaGreatDoor.relabelTellsRow
namespace Go.Proofs.YtideieolgjhbiaaGreatDoor
open Go
theorem relabelTells_card : Rows.RelabelTellsCardSaid :=
  Claim7.holds_tied_plain_at .later [] [.data, .pinned] true (true, "239aeeb957d1f295548c6f70f906923867540864df6fd64f66c8631ccd8720e1") false relabelTellsRow.holds (fun _ h => by cases h) (by kernel_rfl) (fun _ h => by cases h) relabelTells_row_tie rfl ⟨rfl, rfl⟩ (by kernel_rfl) rfl
    (fun f fn hf hfn => by
      obtain rfl : f = 3 := Option.some.inj ((show Tryz.prog.funcNamed "spillway/spillwaylaw5.RelabelTells" = some 3 by kernel_rfl).symm.trans hf) |>.symm
      obtain rfl : fn = Tryz.f3 := (Option.some.inj (Tryz.func3.symm.trans hfn)).symm
      exact ⟨by kernel_rfl, fun j t ht => by
        rw [Tryz.params3] at ht
        have hm : t ∈ [22, 23] := by simpa using Array.mem_of_getElem? ht
        have hall : ([22, 23].all fun u => !Tryz.prog.wantsStandIn u) = true := by kernel_rfl
        exact (show Tryz.prog.wantsStandIn t = false by simpa using List.all_eq_true.1 hall t hm)⟩)
    (by kernel_rfl)
end Go.Proofs.YtideieolgjhbiaaGreatDoor
