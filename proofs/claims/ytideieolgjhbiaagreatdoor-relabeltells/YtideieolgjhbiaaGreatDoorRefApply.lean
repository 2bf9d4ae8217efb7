/- The reference's Apply: as the program's. -/
import Derived.Test.YtideieolgjhbiaaGreatDoorRefText
import Derived.Test.YtideieolgjhbiaaGreatDoorRefWith
namespace Go.Proofs.YtideieolgjhbiaaGreatDoor
open Go.RowKit

theorem s_keep (l : List Pr) (m : Mat) (t u : Str) : ap1K l ⟨1, m, t, u⟩ = fOne m (fGet l m.name) ∧ ap1S l ⟨1, m, t, u⟩ = l ∧ ap1E l ⟨1, m, t, u⟩ = 0 := ⟨rfl, rfl, rfl⟩
theorem s_drop (l : List Pr) (m : Mat) (t u : Str) : ap1K l ⟨2, m, t, u⟩ = !fOne m (fGet l m.name) ∧ ap1S l ⟨2, m, t, u⟩ = l ∧ ap1E l ⟨2, m, t, u⟩ = 0 := ⟨rfl, rfl, rfl⟩
theorem s_repl (l : List Pr) (m : Mat) (t u : Str) : ap1K l ⟨3, m, t, u⟩ = (if fOne m (fGet l m.name) = true then decide (withE l [(t, dol u (fGet l m.name))] = 0) else true) ∧ ap1S l ⟨3, m, t, u⟩ = (if fOne m (fGet l m.name) = true then withL l [(t, dol u (fGet l m.name))] else l) ∧ ap1E l ⟨3, m, t, u⟩ = (if fOne m (fGet l m.name) = true then withE l [(t, dol u (fGet l m.name))] else 0) := ⟨rfl, rfl, rfl⟩
theorem s_thin (l : List Pr) (m : Mat) (t u : Str) : ap1K l ⟨4, m, t, u⟩ = true ∧ ap1S l ⟨4, m, t, u⟩ = l.filter (stays ⟨4, m, t, u⟩) ∧ ap1E l ⟨4, m, t, u⟩ = 0 := ⟨rfl, rfl, rfl⟩
def stUp (r : Rl) (l : List Pr) (q : Nat) : List Pr := (l.take q).filter (stays r)
theorem rule_act {r : Rl} (h : fRule r = true) : r.act = 1 ∨ r.act = 2 ∨ r.act = 3 ∨ r.act = 4 := by
  by_cases h4 : r.act = 4
  · exact Or.inr (Or.inr (Or.inr h4))
  · rcases (rule_kind h h4).2.2 with h | h | h
    · exact Or.inl h
    · exact Or.inr (Or.inl h)
    · exact Or.inr (Or.inr (Or.inl h))

set_option maxRecDepth 200000 in
set_option maxHeartbeats 16000000 in
theorem refApply_any (xa : Option Addr) (n c : Nat) (l : List Pr) (ya : Option Addr) (m d : Nat) (rs : List Rl) (w : World) (hn : n ≤ 1000) (hmm : m ≤ 9223372036854775807) (hfl : Fit l) (hfr : FitRs rs) (hx : Ps w xa n l) (hy : Rs w ya m rs) :
    Calls Tryz.prog 11 #[.slice xa n c, .slice ya m d] w fun e w' => ∃ ao N cap, e = .returned (.tuple #[.slice ao N cap, .bool (fApply l rs).2.1, .int .i64 (fApply l rs).2.2]) ∧ Ps w' ao N (fApply l rs).1 ∧ Below w.heap.size w w' := by
  have hisr := fun j W => refRule_any (rs.getD j rl0) W (hfr.at j)
  have hisl := fun W (hW : Below w.heap.size w W) => refIs_any xa n c l W (by omega) hfl (hx.later hW)
  have HNo : Hid _ := @ok_no rs
  have HOk : Hid _ := @ok_step rs
  have HAl : Hid _ := @ok_all rs
  obtain ⟨hlen, hcell⟩ := hy
  have HL : Hid (rs.length = m) := hlen
  clear hlen
  go_enter Tryz.func11, Tryz.ntmps11
  go_wp2_with fail
  go_loopw [7] (fun i W => ∃ j : Nat, j ≤ m ∧ i = .int .i64 j ∧ Hid (rulesOk (rs.take j) = true) ∧ Below w.heap.size w W) (fun i _ => m - (intOf i).toNat)
  case atStart => exact ⟨0, by omega, rfl, rfl, Below.refl _ _⟩
  case round =>
    obtain ⟨j, hj, rfl, ho, hb⟩ := hrel
    by_cases hlt : j < m
    · obtain ⟨b, off, rfl, hc⟩ := hcell (by omega)
      obtain ⟨d0, d1, d2, d3, d4, d5⟩ := hc j hlt
      have k0 := cell_later d0 hb
      have k1 := cell_later d1 hb
      have k2 := cell_later d2 hb
      have k3 := cell_later d3 hb
      have k4 := cell_later d4 hb
      have k5 := cell_later d5 hb
      have hlt' : j < rs.length := by rw [HL.out]; exact hlt
      have HN : Hid _ := HNo.out hlt'
      have HO : Hid _ := HOk.out hlt' ho.out
      have hi := hisr j
      clear hc hcell d0 d1 d2 d3 d4 d5 hlt' HNo HOk HAl hisr hisl ho hx
      generalize rs.getD j rl0 = r at *
      cases hr : fRule r with
      | true =>
        have HR : Hid _ := HO.out hr
        rw [hr] at hi
        clear HN HO hr
        obtain ⟨act, ⟨nn, kk, tt⟩, tgt, txt⟩ := r
        dsimp only at *
        go_wp2_with fail
        refine (hi _).mono ?_
        rintro e w1 ⟨rfl, hb3⟩
        go_wp2_with fail
        go_roundw
        case rel => exact ⟨j + 1, by omega, by go_num, HR, Below.chain hb hb3⟩
        case measure => simp [intOf]; omega
      | false =>
        have HR : Hid (fApply l rs = ([], false, 12)) := by show _ = _; unfold fApply; rw [HN.out hr, if_neg (by simp)]
        rw [hr] at hi
        clear HN HO hr
        obtain ⟨act, ⟨nn, kk, tt⟩, tgt, txt⟩ := r
        dsimp only at *
        go_wp2_with fail
        refine (hi _).mono ?_
        rintro e w1 ⟨rfl, hb3⟩
        go_wp2_with fail
        go_ret3
        exact ⟨none, 0, 0, by rw [HR.out]; rfl, by rw [HR.out]; exact Ps.nil _ _, Below.chain hb hb3⟩
    · have HOA : Hid (rulesOk rs = true) := HAl.out (by rw [HL.out]; omega) ho.out
      have hw1 := hisl wr hb
      have HF : Hid (fApply l rs = if fIs l = true then apAll l rs else ([], false, 30)) := by show _ = _; unfold fApply; rw [HOA.out, if_pos rfl]
      clear HNo HOk HAl ho hisl hisr
      cases hil : fIs l with
      | false =>
        rw [hil] at hw1
        have HR : Hid (fApply l rs = ([], false, 30)) := by show _ = _; rw [HF.out, hil, if_neg (by simp)]
        clear HF hil
        go_wp2_with fail
        refine hw1.mono ?_
        rintro e w1 ⟨rfl, hb1⟩
        go_wp2_with fail
        go_ret3
        exact ⟨none, 0, 0, by rw [HR.out]; rfl, by rw [HR.out]; exact Ps.nil _ _, Below.chain hb hb1⟩
      | true =>
        rw [hil] at hw1
        have HR : Hid (fApply l rs = apAll l rs) := by show _ = _; rw [HF.out, hil, if_pos rfl]
        have HIL : Hid _ := hil
        clear hil HF
        go_wp2_with fail
        refine hw1.mono ?_
        rintro e w1 ⟨rfl, hb1⟩
        have B1 := Below.chain hb hb1
        have hp1 := hx.later B1
        clear hw1 hb1 hb hx
        go_wp2_with fail
        go_loopw [8, 0] (fun i u W => ∃ (j : Nat) (ao : Option Addr) (N cap : Nat), j ≤ m ∧ i = .int .i64 j ∧ u = .slice ao N cap ∧ Ps W ao N (upA l rs j) ∧ Hid (upK l rs j = true) ∧ Below w.heap.size w W) (fun i _ _ => m - (intOf i).toNat)
        case atStart => exact ⟨0, xa, n, c, by omega, rfl, rfl, hp1, rfl, B1⟩
        case round =>
          obtain ⟨j, ao, N, cap, hj, rfl, rfl, hps, HK, hb⟩ := hrel
          clear hp1 B1
          by_cases hlt : j < m
          · obtain ⟨b, off, rfl, hc⟩ := hcell (by omega)
            obtain ⟨d0, d1, d2, d3, d4, d5⟩ := hc j hlt
            have k0 := cell_later d0 hb
            have k1 := cell_later d1 hb
            have k2 := cell_later d2 hb
            have k3 := cell_later d3 hb
            have k4 := cell_later d4 hb
            have k5 := cell_later d5 hb
            have hlt' : j < rs.length := by rw [HL.out]; exact hlt
            have HSt : Hid _ := up_step (l := l) hlt' HK.out
            have HSp : Hid _ := up_stop (l := l) hlt' HK.out
            have hok := ok_at hlt' HOA.out
            have hact := rule_act hok
            have hsh := rule_short hok
            have his : fIs (upA l rs j) = true := up_is HIL.out HK.out
            have hfrj := hfr.at j
            clear hc hcell d0 d1 d2 d3 d4 d5 hlt' HK HOA hok
            generalize rs.getD j rl0 = r at *
            generalize upA l rs j = la at *
            have hN8 : N ≤ 8 := by rw [← hps.1]; exact (is_short his).1
            have hgs := get_short his r.frm.name
            have hget := fun W (hW : Below wr.heap.size wr W) => refGet_any ao N cap la r.frm.name W (by omega) (hps.later hW)
            have hone := fun W => refOne_any r.frm (fGet la r.frm.name) W (by omega) hfrj.2.1
            obtain ⟨ht, Hht⟩ : ∃ ht, Hid (fOne r.frm (fGet la r.frm.name) = ht) := ⟨_, (rfl : fOne r.frm (fGet la r.frm.name) = fOne r.frm (fGet la r.frm.name))⟩
            rw [Hht.out] at hone
            obtain ⟨act, ⟨nn, kk, tt⟩, tgt, txt⟩ := r
            dsimp only at *
            rcases hact with rfl | rfl | rfl | rfl
            · obtain ⟨hK, hS, hE⟩ := s_keep la ⟨nn, kk, tt⟩ tgt txt
              rw [Hht.out] at hK
              cases ht with
              | true =>
                have HA : Hid _ := HSt.out hK
                rw [hS] at HA
                clear HSt HSp hK hS hE Hht
                go_wp2_with fail
                have C0 : Below wr.heap.size wr wr.drew := (Below.refl _ _).drew
                refine wp_region_noPanic ?_
                refine wp_region_held_drew (S := fun W => Below wr.heap.size wr W) (by kernel_rfl) ?_ (fun _ => ?_)
                · exact C0
                generalize wr.drew = wd at *
                refine take_at 0 (some 35) (.slice (some ⟨b, off, none⟩) m d) rfl rfl (by kernel_rfl) (by kernel_rfl) (by kernel_rfl) (fun _ _ _ h => h) (by rfl) (fun W hSw => by go_simp) C0 ?_
                simp only [Act.put, List.setIfInBounds_toArray, List.set_cons_zero, List.set_cons_succ]
                refine take_at 1 (some 36) (.int .i64 j) rfl rfl (by kernel_rfl) (by kernel_rfl) (by kernel_rfl) (fun _ _ _ h => h) (by rfl) (fun W hSw => by go_simp) C0 ?_
                simp only [Act.put, List.setIfInBounds_toArray, List.set_cons_zero, List.set_cons_succ]
                refine take_at 2 (some 37) (.pointer (some ⟨b, off + j * 6, none⟩)) rfl rfl (by kernel_rfl) (by kernel_rfl) (by kernel_rfl) (fun _ _ _ h => h) (by rfl) (fun W hSw => by go_simp) C0 ?_
                simp only [Act.put, List.setIfInBounds_toArray, List.set_cons_zero, List.set_cons_succ]
                refine take_at 3 (some 38) (.pointer (some ⟨b, off + j * 6 + 1, none⟩)) rfl rfl (by kernel_rfl) (by kernel_rfl) (by kernel_rfl) (fun _ _ _ h => h) (by rfl) (fun W hSw => by go_simp) C0 ?_
                simp only [Act.put, List.setIfInBounds_toArray, List.set_cons_zero, List.set_cons_succ]
                refine take_at 4 (some 39) (.agg #[tx nn, .int .i64 kk, tx tt]) rfl rfl (by kernel_rfl) (by kernel_rfl) (by kernel_rfl) (fun _ _ _ h => h) (by rfl) (fun W hSw => by have c1 := cell_later k1 hSw; have c2 := cell_later k2 hSw; have c3 := cell_later k3 hSw; go_simp) C0 ?_
                simp only [Act.put, List.setIfInBounds_toArray, List.set_cons_zero, List.set_cons_succ]
                refine take_at 5 (some 40) (.slice ao N cap) rfl rfl (by kernel_rfl) (by kernel_rfl) (by kernel_rfl) (fun _ _ _ h => h) (by rfl) (fun W hSw => by go_simp) C0 ?_
                simp only [Act.put, List.setIfInBounds_toArray, List.set_cons_zero, List.set_cons_succ]
                refine take_at 6 (some 41) (.slice (some ⟨b, off, none⟩) m d) rfl rfl (by kernel_rfl) (by kernel_rfl) (by kernel_rfl) (fun _ _ _ h => h) (by rfl) (fun W hSw => by go_simp) C0 ?_
                simp only [Act.put, List.setIfInBounds_toArray, List.set_cons_zero, List.set_cons_succ]
                refine take_at 7 (some 42) (.int .i64 j) rfl rfl (by kernel_rfl) (by kernel_rfl) (by kernel_rfl) (fun _ _ _ h => h) (by rfl) (fun W hSw => by go_simp) C0 ?_
                simp only [Act.put, List.setIfInBounds_toArray, List.set_cons_zero, List.set_cons_succ]
                refine take_at 8 (some 43) (.pointer (some ⟨b, off + j * 6, none⟩)) rfl rfl (by kernel_rfl) (by kernel_rfl) (by kernel_rfl) (fun _ _ _ h => h) (by rfl) (fun W hSw => by go_simp) C0 ?_
                simp only [Act.put, List.setIfInBounds_toArray, List.set_cons_zero, List.set_cons_succ]
                refine take_at 9 (some 44) (.pointer (some ⟨b, off + j * 6 + 1, none⟩)) rfl rfl (by kernel_rfl) (by kernel_rfl) (by kernel_rfl) (fun _ _ _ h => h) (by rfl) (fun W hSw => by go_simp) C0 ?_
                simp only [Act.put, List.setIfInBounds_toArray, List.set_cons_zero, List.set_cons_succ]
                refine take_at 10 (some 45) (.pointer (some ⟨b, off + j * 6 + 1, none⟩)) rfl rfl (by kernel_rfl) (by kernel_rfl) (by kernel_rfl) (fun _ _ _ h => h) (by rfl) (fun W hSw => by go_simp) C0 ?_
                simp only [Act.put, List.setIfInBounds_toArray, List.set_cons_zero, List.set_cons_succ]
                refine take_at 11 (some 46) (tx nn) rfl rfl (by kernel_rfl) (by kernel_rfl) (by kernel_rfl) (fun _ _ _ h => h) (by rfl) (fun W hSw => by have c1 := cell_later k1 hSw; go_simp) C0 ?_
                simp only [Act.put, List.setIfInBounds_toArray, List.set_cons_zero, List.set_cons_succ]
                refine wpAnyH_ready (rs := [12]) (by kernel_rfl) (by simp) ?_
                refine AllReadyH.cons rfl (fun K hK => ?_) AllReadyH.nil
                go_simp
                refine (hget _ C0).mono ?_
                rintro e wp1 ⟨rfl, rfl⟩
                refine hK.out _ _ ?_ (fun _ => ?_)
                · exact C0
                clear hK K
                refine wpAnyH_ready (rs := [13]) (by kernel_rfl) (by simp) ?_
                refine AllReadyH.cons rfl (fun K hK => ?_) AllReadyH.nil
                go_simp
                refine (hone _).mono ?_
                rintro e wc2 ⟨rfl, hc2⟩
                have C2 := Below.chain C0 hc2
                refine hK.out _ _ ?_ (fun _ => ?_)
                · exact C2
                clear hK K
                refine take_at 14 (some 9) (.bool true) rfl rfl (by kernel_rfl) (by kernel_rfl) (by kernel_rfl) (fun _ _ _ h => h) (by rfl) (fun W hSw => by go_simp) C2 ?_
                simp only [Act.put, List.setIfInBounds_toArray, List.set_cons_zero, List.set_cons_succ]
                refine wpAnyH_done (by kernel_rfl) ?_ _
                refine NoPanic.normal ?_
                have B2 := Below.chain hb C2
                have hps2 := hps.later C2
                have f0' := cell_later k0 C2
                have f1' := cell_later k1 C2
                have f2' := cell_later k2 C2
                have f3' := cell_later k3 C2
                have f4' := cell_later k4 C2
                have f5' := cell_later k5 C2
                generalize wc2 = w2 at *
                clear C0 C2 hc2 k0 k1 k2 k3 k4 k5 hps hb hone
                go_wp2_with fail
                go_roundw
                case rel => exact ⟨j + 1, ao, N, cap, by omega, by go_num, rfl, by rw [HA.out.2]; exact hps2, HA.out.1, B2⟩
                case measure => simp [intOf]; omega
              | false =>
                have HF : Hid (fApply l rs = ([], false, 0)) := by show _ = _; rw [HR.out, HSp.out hK, hE]
                clear HSt HSp hK hS hE Hht HR
                go_wp2_with fail
                have C0 : Below wr.heap.size wr wr.drew := (Below.refl _ _).drew
                refine wp_region_noPanic ?_
                refine wp_region_held_drew (S := fun W => Below wr.heap.size wr W) (by kernel_rfl) ?_ (fun _ => ?_)
                · exact C0
                generalize wr.drew = wd at *
                refine take_at 0 (some 35) (.slice (some ⟨b, off, none⟩) m d) rfl rfl (by kernel_rfl) (by kernel_rfl) (by kernel_rfl) (fun _ _ _ h => h) (by rfl) (fun W hSw => by go_simp) C0 ?_
                simp only [Act.put, List.setIfInBounds_toArray, List.set_cons_zero, List.set_cons_succ]
                refine take_at 1 (some 36) (.int .i64 j) rfl rfl (by kernel_rfl) (by kernel_rfl) (by kernel_rfl) (fun _ _ _ h => h) (by rfl) (fun W hSw => by go_simp) C0 ?_
                simp only [Act.put, List.setIfInBounds_toArray, List.set_cons_zero, List.set_cons_succ]
                refine take_at 2 (some 37) (.pointer (some ⟨b, off + j * 6, none⟩)) rfl rfl (by kernel_rfl) (by kernel_rfl) (by kernel_rfl) (fun _ _ _ h => h) (by rfl) (fun W hSw => by go_simp) C0 ?_
                simp only [Act.put, List.setIfInBounds_toArray, List.set_cons_zero, List.set_cons_succ]
                refine take_at 3 (some 38) (.pointer (some ⟨b, off + j * 6 + 1, none⟩)) rfl rfl (by kernel_rfl) (by kernel_rfl) (by kernel_rfl) (fun _ _ _ h => h) (by rfl) (fun W hSw => by go_simp) C0 ?_
                simp only [Act.put, List.setIfInBounds_toArray, List.set_cons_zero, List.set_cons_succ]
                refine take_at 4 (some 39) (.agg #[tx nn, .int .i64 kk, tx tt]) rfl rfl (by kernel_rfl) (by kernel_rfl) (by kernel_rfl) (fun _ _ _ h => h) (by rfl) (fun W hSw => by have c1 := cell_later k1 hSw; have c2 := cell_later k2 hSw; have c3 := cell_later k3 hSw; go_simp) C0 ?_
                simp only [Act.put, List.setIfInBounds_toArray, List.set_cons_zero, List.set_cons_succ]
                refine take_at 5 (some 40) (.slice ao N cap) rfl rfl (by kernel_rfl) (by kernel_rfl) (by kernel_rfl) (fun _ _ _ h => h) (by rfl) (fun W hSw => by go_simp) C0 ?_
                simp only [Act.put, List.setIfInBounds_toArray, List.set_cons_zero, List.set_cons_succ]
                refine take_at 6 (some 41) (.slice (some ⟨b, off, none⟩) m d) rfl rfl (by kernel_rfl) (by kernel_rfl) (by kernel_rfl) (fun _ _ _ h => h) (by rfl) (fun W hSw => by go_simp) C0 ?_
                simp only [Act.put, List.setIfInBounds_toArray, List.set_cons_zero, List.set_cons_succ]
                refine take_at 7 (some 42) (.int .i64 j) rfl rfl (by kernel_rfl) (by kernel_rfl) (by kernel_rfl) (fun _ _ _ h => h) (by rfl) (fun W hSw => by go_simp) C0 ?_
                simp only [Act.put, List.setIfInBounds_toArray, List.set_cons_zero, List.set_cons_succ]
                refine take_at 8 (some 43) (.pointer (some ⟨b, off + j * 6, none⟩)) rfl rfl (by kernel_rfl) (by kernel_rfl) (by kernel_rfl) (fun _ _ _ h => h) (by rfl) (fun W hSw => by go_simp) C0 ?_
                simp only [Act.put, List.setIfInBounds_toArray, List.set_cons_zero, List.set_cons_succ]
                refine take_at 9 (some 44) (.pointer (some ⟨b, off + j * 6 + 1, none⟩)) rfl rfl (by kernel_rfl) (by kernel_rfl) (by kernel_rfl) (fun _ _ _ h => h) (by rfl) (fun W hSw => by go_simp) C0 ?_
                simp only [Act.put, List.setIfInBounds_toArray, List.set_cons_zero, List.set_cons_succ]
                refine take_at 10 (some 45) (.pointer (some ⟨b, off + j * 6 + 1, none⟩)) rfl rfl (by kernel_rfl) (by kernel_rfl) (by kernel_rfl) (fun _ _ _ h => h) (by rfl) (fun W hSw => by go_simp) C0 ?_
                simp only [Act.put, List.setIfInBounds_toArray, List.set_cons_zero, List.set_cons_succ]
                refine take_at 11 (some 46) (tx nn) rfl rfl (by kernel_rfl) (by kernel_rfl) (by kernel_rfl) (fun _ _ _ h => h) (by rfl) (fun W hSw => by have c1 := cell_later k1 hSw; go_simp) C0 ?_
                simp only [Act.put, List.setIfInBounds_toArray, List.set_cons_zero, List.set_cons_succ]
                refine wpAnyH_ready (rs := [12]) (by kernel_rfl) (by simp) ?_
                refine AllReadyH.cons rfl (fun K hK => ?_) AllReadyH.nil
                go_simp
                refine (hget _ C0).mono ?_
                rintro e wp1 ⟨rfl, rfl⟩
                refine hK.out _ _ ?_ (fun _ => ?_)
                · exact C0
                clear hK K
                refine wpAnyH_ready (rs := [13]) (by kernel_rfl) (by simp) ?_
                refine AllReadyH.cons rfl (fun K hK => ?_) AllReadyH.nil
                go_simp
                refine (hone _).mono ?_
                rintro e wc2 ⟨rfl, hc2⟩
                have C2 := Below.chain C0 hc2
                refine hK.out _ _ ?_ (fun _ => ?_)
                · exact C2
                clear hK K
                refine take_at 14 (some 9) (.bool false) rfl rfl (by kernel_rfl) (by kernel_rfl) (by kernel_rfl) (fun _ _ _ h => h) (by rfl) (fun W hSw => by go_simp) C2 ?_
                simp only [Act.put, List.setIfInBounds_toArray, List.set_cons_zero, List.set_cons_succ]
                refine wpAnyH_done (by kernel_rfl) ?_ _
                refine NoPanic.normal ?_
                have B2 := Below.chain hb C2
                have hps2 := hps.later C2
                have f0' := cell_later k0 C2
                have f1' := cell_later k1 C2
                have f2' := cell_later k2 C2
                have f3' := cell_later k3 C2
                have f4' := cell_later k4 C2
                have f5' := cell_later k5 C2
                generalize wc2 = w2 at *
                clear C0 C2 hc2 k0 k1 k2 k3 k4 k5 hps hb hone
                go_wp2_with fail
                go_ret3
                exact ⟨none, 0, 0, by rw [HF.out]; rfl, by rw [HF.out]; exact Ps.nil _ _, B2⟩
            · obtain ⟨hK, hS, hE⟩ := s_drop la ⟨nn, kk, tt⟩ tgt txt
              rw [Hht.out] at hK
              cases ht with
              | false =>
                have HA : Hid _ := HSt.out hK
                rw [hS] at HA
                clear HSt HSp hK hS hE Hht
                go_wp2_with fail
                have C0 : Below wr.heap.size wr wr.drew := (Below.refl _ _).drew
                refine wp_region_noPanic ?_
                refine wp_region_held_drew (S := fun W => Below wr.heap.size wr W) (by kernel_rfl) ?_ (fun _ => ?_)
                · exact C0
                generalize wr.drew = wd at *
                refine take_at 0 (some 35) (.slice (some ⟨b, off, none⟩) m d) rfl rfl (by kernel_rfl) (by kernel_rfl) (by kernel_rfl) (fun _ _ _ h => h) (by rfl) (fun W hSw => by go_simp) C0 ?_
                simp only [Act.put, List.setIfInBounds_toArray, List.set_cons_zero, List.set_cons_succ]
                refine take_at 1 (some 36) (.int .i64 j) rfl rfl (by kernel_rfl) (by kernel_rfl) (by kernel_rfl) (fun _ _ _ h => h) (by rfl) (fun W hSw => by go_simp) C0 ?_
                simp only [Act.put, List.setIfInBounds_toArray, List.set_cons_zero, List.set_cons_succ]
                refine take_at 2 (some 37) (.pointer (some ⟨b, off + j * 6, none⟩)) rfl rfl (by kernel_rfl) (by kernel_rfl) (by kernel_rfl) (fun _ _ _ h => h) (by rfl) (fun W hSw => by go_simp) C0 ?_
                simp only [Act.put, List.setIfInBounds_toArray, List.set_cons_zero, List.set_cons_succ]
                refine take_at 3 (some 38) (.pointer (some ⟨b, off + j * 6 + 1, none⟩)) rfl rfl (by kernel_rfl) (by kernel_rfl) (by kernel_rfl) (fun _ _ _ h => h) (by rfl) (fun W hSw => by go_simp) C0 ?_
                simp only [Act.put, List.setIfInBounds_toArray, List.set_cons_zero, List.set_cons_succ]
                refine take_at 4 (some 39) (.agg #[tx nn, .int .i64 kk, tx tt]) rfl rfl (by kernel_rfl) (by kernel_rfl) (by kernel_rfl) (fun _ _ _ h => h) (by rfl) (fun W hSw => by have c1 := cell_later k1 hSw; have c2 := cell_later k2 hSw; have c3 := cell_later k3 hSw; go_simp) C0 ?_
                simp only [Act.put, List.setIfInBounds_toArray, List.set_cons_zero, List.set_cons_succ]
                refine take_at 5 (some 40) (.slice ao N cap) rfl rfl (by kernel_rfl) (by kernel_rfl) (by kernel_rfl) (fun _ _ _ h => h) (by rfl) (fun W hSw => by go_simp) C0 ?_
                simp only [Act.put, List.setIfInBounds_toArray, List.set_cons_zero, List.set_cons_succ]
                refine take_at 6 (some 41) (.slice (some ⟨b, off, none⟩) m d) rfl rfl (by kernel_rfl) (by kernel_rfl) (by kernel_rfl) (fun _ _ _ h => h) (by rfl) (fun W hSw => by go_simp) C0 ?_
                simp only [Act.put, List.setIfInBounds_toArray, List.set_cons_zero, List.set_cons_succ]
                refine take_at 7 (some 42) (.int .i64 j) rfl rfl (by kernel_rfl) (by kernel_rfl) (by kernel_rfl) (fun _ _ _ h => h) (by rfl) (fun W hSw => by go_simp) C0 ?_
                simp only [Act.put, List.setIfInBounds_toArray, List.set_cons_zero, List.set_cons_succ]
                refine take_at 8 (some 43) (.pointer (some ⟨b, off + j * 6, none⟩)) rfl rfl (by kernel_rfl) (by kernel_rfl) (by kernel_rfl) (fun _ _ _ h => h) (by rfl) (fun W hSw => by go_simp) C0 ?_
                simp only [Act.put, List.setIfInBounds_toArray, List.set_cons_zero, List.set_cons_succ]
                refine take_at 9 (some 44) (.pointer (some ⟨b, off + j * 6 + 1, none⟩)) rfl rfl (by kernel_rfl) (by kernel_rfl) (by kernel_rfl) (fun _ _ _ h => h) (by rfl) (fun W hSw => by go_simp) C0 ?_
                simp only [Act.put, List.setIfInBounds_toArray, List.set_cons_zero, List.set_cons_succ]
                refine take_at 10 (some 45) (.pointer (some ⟨b, off + j * 6 + 1, none⟩)) rfl rfl (by kernel_rfl) (by kernel_rfl) (by kernel_rfl) (fun _ _ _ h => h) (by rfl) (fun W hSw => by go_simp) C0 ?_
                simp only [Act.put, List.setIfInBounds_toArray, List.set_cons_zero, List.set_cons_succ]
                refine take_at 11 (some 46) (tx nn) rfl rfl (by kernel_rfl) (by kernel_rfl) (by kernel_rfl) (fun _ _ _ h => h) (by rfl) (fun W hSw => by have c1 := cell_later k1 hSw; go_simp) C0 ?_
                simp only [Act.put, List.setIfInBounds_toArray, List.set_cons_zero, List.set_cons_succ]
                refine wpAnyH_ready (rs := [12]) (by kernel_rfl) (by simp) ?_
                refine AllReadyH.cons rfl (fun K hK => ?_) AllReadyH.nil
                go_simp
                refine (hget _ C0).mono ?_
                rintro e wp1 ⟨rfl, rfl⟩
                refine hK.out _ _ ?_ (fun _ => ?_)
                · exact C0
                clear hK K
                refine wpAnyH_ready (rs := [13]) (by kernel_rfl) (by simp) ?_
                refine AllReadyH.cons rfl (fun K hK => ?_) AllReadyH.nil
                go_simp
                refine (hone _).mono ?_
                rintro e wc2 ⟨rfl, hc2⟩
                have C2 := Below.chain C0 hc2
                refine hK.out _ _ ?_ (fun _ => ?_)
                · exact C2
                clear hK K
                refine take_at 14 (some 9) (.bool false) rfl rfl (by kernel_rfl) (by kernel_rfl) (by kernel_rfl) (fun _ _ _ h => h) (by rfl) (fun W hSw => by go_simp) C2 ?_
                simp only [Act.put, List.setIfInBounds_toArray, List.set_cons_zero, List.set_cons_succ]
                refine wpAnyH_done (by kernel_rfl) ?_ _
                refine NoPanic.normal ?_
                have B2 := Below.chain hb C2
                have hps2 := hps.later C2
                have f0' := cell_later k0 C2
                have f1' := cell_later k1 C2
                have f2' := cell_later k2 C2
                have f3' := cell_later k3 C2
                have f4' := cell_later k4 C2
                have f5' := cell_later k5 C2
                generalize wc2 = w2 at *
                clear C0 C2 hc2 k0 k1 k2 k3 k4 k5 hps hb hone
                go_wp2_with fail
                go_roundw
                case rel => exact ⟨j + 1, ao, N, cap, by omega, by go_num, rfl, by rw [HA.out.2]; exact hps2, HA.out.1, B2⟩
                case measure => simp [intOf]; omega
              | true =>
                have HF : Hid (fApply l rs = ([], false, 0)) := by show _ = _; rw [HR.out, HSp.out hK, hE]
                clear HSt HSp hK hS hE Hht HR
                go_wp2_with fail
                have C0 : Below wr.heap.size wr wr.drew := (Below.refl _ _).drew
                refine wp_region_noPanic ?_
                refine wp_region_held_drew (S := fun W => Below wr.heap.size wr W) (by kernel_rfl) ?_ (fun _ => ?_)
                · exact C0
                generalize wr.drew = wd at *
                refine take_at 0 (some 35) (.slice (some ⟨b, off, none⟩) m d) rfl rfl (by kernel_rfl) (by kernel_rfl) (by kernel_rfl) (fun _ _ _ h => h) (by rfl) (fun W hSw => by go_simp) C0 ?_
                simp only [Act.put, List.setIfInBounds_toArray, List.set_cons_zero, List.set_cons_succ]
                refine take_at 1 (some 36) (.int .i64 j) rfl rfl (by kernel_rfl) (by kernel_rfl) (by kernel_rfl) (fun _ _ _ h => h) (by rfl) (fun W hSw => by go_simp) C0 ?_
                simp only [Act.put, List.setIfInBounds_toArray, List.set_cons_zero, List.set_cons_succ]
                refine take_at 2 (some 37) (.pointer (some ⟨b, off + j * 6, none⟩)) rfl rfl (by kernel_rfl) (by kernel_rfl) (by kernel_rfl) (fun _ _ _ h => h) (by rfl) (fun W hSw => by go_simp) C0 ?_
                simp only [Act.put, List.setIfInBounds_toArray, List.set_cons_zero, List.set_cons_succ]
                refine take_at 3 (some 38) (.pointer (some ⟨b, off + j * 6 + 1, none⟩)) rfl rfl (by kernel_rfl) (by kernel_rfl) (by kernel_rfl) (fun _ _ _ h => h) (by rfl) (fun W hSw => by go_simp) C0 ?_
                simp only [Act.put, List.setIfInBounds_toArray, List.set_cons_zero, List.set_cons_succ]
                refine take_at 4 (some 39) (.agg #[tx nn, .int .i64 kk, tx tt]) rfl rfl (by kernel_rfl) (by kernel_rfl) (by kernel_rfl) (fun _ _ _ h => h) (by rfl) (fun W hSw => by have c1 := cell_later k1 hSw; have c2 := cell_later k2 hSw; have c3 := cell_later k3 hSw; go_simp) C0 ?_
                simp only [Act.put, List.setIfInBounds_toArray, List.set_cons_zero, List.set_cons_succ]
                refine take_at 5 (some 40) (.slice ao N cap) rfl rfl (by kernel_rfl) (by kernel_rfl) (by kernel_rfl) (fun _ _ _ h => h) (by rfl) (fun W hSw => by go_simp) C0 ?_
                simp only [Act.put, List.setIfInBounds_toArray, List.set_cons_zero, List.set_cons_succ]
                refine take_at 6 (some 41) (.slice (some ⟨b, off, none⟩) m d) rfl rfl (by kernel_rfl) (by kernel_rfl) (by kernel_rfl) (fun _ _ _ h => h) (by rfl) (fun W hSw => by go_simp) C0 ?_
                simp only [Act.put, List.setIfInBounds_toArray, List.set_cons_zero, List.set_cons_succ]
                refine take_at 7 (some 42) (.int .i64 j) rfl rfl (by kernel_rfl) (by kernel_rfl) (by kernel_rfl) (fun _ _ _ h => h) (by rfl) (fun W hSw => by go_simp) C0 ?_
                simp only [Act.put, List.setIfInBounds_toArray, List.set_cons_zero, List.set_cons_succ]
                refine take_at 8 (some 43) (.pointer (some ⟨b, off + j * 6, none⟩)) rfl rfl (by kernel_rfl) (by kernel_rfl) (by kernel_rfl) (fun _ _ _ h => h) (by rfl) (fun W hSw => by go_simp) C0 ?_
                simp only [Act.put, List.setIfInBounds_toArray, List.set_cons_zero, List.set_cons_succ]
                refine take_at 9 (some 44) (.pointer (some ⟨b, off + j * 6 + 1, none⟩)) rfl rfl (by kernel_rfl) (by kernel_rfl) (by kernel_rfl) (fun _ _ _ h => h) (by rfl) (fun W hSw => by go_simp) C0 ?_
                simp only [Act.put, List.setIfInBounds_toArray, List.set_cons_zero, List.set_cons_succ]
                refine take_at 10 (some 45) (.pointer (some ⟨b, off + j * 6 + 1, none⟩)) rfl rfl (by kernel_rfl) (by kernel_rfl) (by kernel_rfl) (fun _ _ _ h => h) (by rfl) (fun W hSw => by go_simp) C0 ?_
                simp only [Act.put, List.setIfInBounds_toArray, List.set_cons_zero, List.set_cons_succ]
                refine take_at 11 (some 46) (tx nn) rfl rfl (by kernel_rfl) (by kernel_rfl) (by kernel_rfl) (fun _ _ _ h => h) (by rfl) (fun W hSw => by have c1 := cell_later k1 hSw; go_simp) C0 ?_
                simp only [Act.put, List.setIfInBounds_toArray, List.set_cons_zero, List.set_cons_succ]
                refine wpAnyH_ready (rs := [12]) (by kernel_rfl) (by simp) ?_
                refine AllReadyH.cons rfl (fun K hK => ?_) AllReadyH.nil
                go_simp
                refine (hget _ C0).mono ?_
                rintro e wp1 ⟨rfl, rfl⟩
                refine hK.out _ _ ?_ (fun _ => ?_)
                · exact C0
                clear hK K
                refine wpAnyH_ready (rs := [13]) (by kernel_rfl) (by simp) ?_
                refine AllReadyH.cons rfl (fun K hK => ?_) AllReadyH.nil
                go_simp
                refine (hone _).mono ?_
                rintro e wc2 ⟨rfl, hc2⟩
                have C2 := Below.chain C0 hc2
                refine hK.out _ _ ?_ (fun _ => ?_)
                · exact C2
                clear hK K
                refine take_at 14 (some 9) (.bool true) rfl rfl (by kernel_rfl) (by kernel_rfl) (by kernel_rfl) (fun _ _ _ h => h) (by rfl) (fun W hSw => by go_simp) C2 ?_
                simp only [Act.put, List.setIfInBounds_toArray, List.set_cons_zero, List.set_cons_succ]
                refine wpAnyH_done (by kernel_rfl) ?_ _
                refine NoPanic.normal ?_
                have B2 := Below.chain hb C2
                have hps2 := hps.later C2
                have f0' := cell_later k0 C2
                have f1' := cell_later k1 C2
                have f2' := cell_later k2 C2
                have f3' := cell_later k3 C2
                have f4' := cell_later k4 C2
                have f5' := cell_later k5 C2
                generalize wc2 = w2 at *
                clear C0 C2 hc2 k0 k1 k2 k3 k4 k5 hps hb hone
                go_wp2_with fail
                go_ret3
                exact ⟨none, 0, 0, by rw [HF.out]; rfl, by rw [HF.out]; exact Ps.nil _ _, B2⟩
            · obtain ⟨hK, hS, hE⟩ := s_repl la ⟨nn, kk, tt⟩ tgt txt
              rw [Hht.out] at hK hS hE
              cases ht with
              | false =>
                rw [if_neg (by simp)] at hK hS
                have HA : Hid _ := HSt.out hK
                rw [hS] at HA
                clear HSt HSp hK hS hE Hht
                go_wp2_with fail
                have C0 : Below wr.heap.size wr wr.drew := (Below.refl _ _).drew
                refine wp_region_noPanic ?_
                refine wp_region_held_drew (S := fun W => Below wr.heap.size wr W) (by kernel_rfl) ?_ (fun _ => ?_)
                · exact C0
                generalize wr.drew = wd at *
                refine take_at 0 (some 35) (.slice (some ⟨b, off, none⟩) m d) rfl rfl (by kernel_rfl) (by kernel_rfl) (by kernel_rfl) (fun _ _ _ h => h) (by rfl) (fun W hSw => by go_simp) C0 ?_
                simp only [Act.put, List.setIfInBounds_toArray, List.set_cons_zero, List.set_cons_succ]
                refine take_at 1 (some 36) (.int .i64 j) rfl rfl (by kernel_rfl) (by kernel_rfl) (by kernel_rfl) (fun _ _ _ h => h) (by rfl) (fun W hSw => by go_simp) C0 ?_
                simp only [Act.put, List.setIfInBounds_toArray, List.set_cons_zero, List.set_cons_succ]
                refine take_at 2 (some 37) (.pointer (some ⟨b, off + j * 6, none⟩)) rfl rfl (by kernel_rfl) (by kernel_rfl) (by kernel_rfl) (fun _ _ _ h => h) (by rfl) (fun W hSw => by go_simp) C0 ?_
                simp only [Act.put, List.setIfInBounds_toArray, List.set_cons_zero, List.set_cons_succ]
                refine take_at 3 (some 38) (.pointer (some ⟨b, off + j * 6 + 1, none⟩)) rfl rfl (by kernel_rfl) (by kernel_rfl) (by kernel_rfl) (fun _ _ _ h => h) (by rfl) (fun W hSw => by go_simp) C0 ?_
                simp only [Act.put, List.setIfInBounds_toArray, List.set_cons_zero, List.set_cons_succ]
                refine take_at 4 (some 39) (.agg #[tx nn, .int .i64 kk, tx tt]) rfl rfl (by kernel_rfl) (by kernel_rfl) (by kernel_rfl) (fun _ _ _ h => h) (by rfl) (fun W hSw => by have c1 := cell_later k1 hSw; have c2 := cell_later k2 hSw; have c3 := cell_later k3 hSw; go_simp) C0 ?_
                simp only [Act.put, List.setIfInBounds_toArray, List.set_cons_zero, List.set_cons_succ]
                refine take_at 5 (some 40) (.slice ao N cap) rfl rfl (by kernel_rfl) (by kernel_rfl) (by kernel_rfl) (fun _ _ _ h => h) (by rfl) (fun W hSw => by go_simp) C0 ?_
                simp only [Act.put, List.setIfInBounds_toArray, List.set_cons_zero, List.set_cons_succ]
                refine take_at 6 (some 41) (.slice (some ⟨b, off, none⟩) m d) rfl rfl (by kernel_rfl) (by kernel_rfl) (by kernel_rfl) (fun _ _ _ h => h) (by rfl) (fun W hSw => by go_simp) C0 ?_
                simp only [Act.put, List.setIfInBounds_toArray, List.set_cons_zero, List.set_cons_succ]
                refine take_at 7 (some 42) (.int .i64 j) rfl rfl (by kernel_rfl) (by kernel_rfl) (by kernel_rfl) (fun _ _ _ h => h) (by rfl) (fun W hSw => by go_simp) C0 ?_
                simp only [Act.put, List.setIfInBounds_toArray, List.set_cons_zero, List.set_cons_succ]
                refine take_at 8 (some 43) (.pointer (some ⟨b, off + j * 6, none⟩)) rfl rfl (by kernel_rfl) (by kernel_rfl) (by kernel_rfl) (fun _ _ _ h => h) (by rfl) (fun W hSw => by go_simp) C0 ?_
                simp only [Act.put, List.setIfInBounds_toArray, List.set_cons_zero, List.set_cons_succ]
                refine take_at 9 (some 44) (.pointer (some ⟨b, off + j * 6 + 1, none⟩)) rfl rfl (by kernel_rfl) (by kernel_rfl) (by kernel_rfl) (fun _ _ _ h => h) (by rfl) (fun W hSw => by go_simp) C0 ?_
                simp only [Act.put, List.setIfInBounds_toArray, List.set_cons_zero, List.set_cons_succ]
                refine take_at 10 (some 45) (.pointer (some ⟨b, off + j * 6 + 1, none⟩)) rfl rfl (by kernel_rfl) (by kernel_rfl) (by kernel_rfl) (fun _ _ _ h => h) (by rfl) (fun W hSw => by go_simp) C0 ?_
                simp only [Act.put, List.setIfInBounds_toArray, List.set_cons_zero, List.set_cons_succ]
                refine take_at 11 (some 46) (tx nn) rfl rfl (by kernel_rfl) (by kernel_rfl) (by kernel_rfl) (fun _ _ _ h => h) (by rfl) (fun W hSw => by have c1 := cell_later k1 hSw; go_simp) C0 ?_
                simp only [Act.put, List.setIfInBounds_toArray, List.set_cons_zero, List.set_cons_succ]
                refine wpAnyH_ready (rs := [12]) (by kernel_rfl) (by simp) ?_
                refine AllReadyH.cons rfl (fun K hK => ?_) AllReadyH.nil
                go_simp
                refine (hget _ C0).mono ?_
                rintro e wp1 ⟨rfl, rfl⟩
                refine hK.out _ _ ?_ (fun _ => ?_)
                · exact C0
                clear hK K
                refine wpAnyH_ready (rs := [13]) (by kernel_rfl) (by simp) ?_
                refine AllReadyH.cons rfl (fun K hK => ?_) AllReadyH.nil
                go_simp
                refine (hone _).mono ?_
                rintro e wc2 ⟨rfl, hc2⟩
                have C2 := Below.chain C0 hc2
                refine hK.out _ _ ?_ (fun _ => ?_)
                · exact C2
                clear hK K
                refine take_at 14 (some 9) (.bool false) rfl rfl (by kernel_rfl) (by kernel_rfl) (by kernel_rfl) (fun _ _ _ h => h) (by rfl) (fun W hSw => by go_simp) C2 ?_
                simp only [Act.put, List.setIfInBounds_toArray, List.set_cons_zero, List.set_cons_succ]
                refine wpAnyH_done (by kernel_rfl) ?_ _
                refine NoPanic.normal ?_
                have B2 := Below.chain hb C2
                have hps2 := hps.later C2
                have f0' := cell_later k0 C2
                have f1' := cell_later k1 C2
                have f2' := cell_later k2 C2
                have f3' := cell_later k3 C2
                have f4' := cell_later k4 C2
                have f5' := cell_later k5 C2
                generalize wc2 = w2 at *
                clear C0 C2 hc2 k0 k1 k2 k3 k4 k5 hps hb hone
                go_wp2_with fail
                go_roundw
                case rel => exact ⟨j + 1, ao, N, cap, by omega, by go_num, rfl, by rw [HA.out.2]; exact hps2, HA.out.1, B2⟩
                case measure => simp [intOf]; omega
              | true =>
                rw [if_pos rfl] at hK hS hE
                have hvl := dol_len txt (fGet la nn)
                have hvl2 : (dol txt (fGet la nn)).length ≤ 100000 := by
                  have : txt.length * ((fGet la nn).length + 1) ≤ 100 * 31 := Nat.mul_le_mul hsh.2.2.2 (by omega)
                  omega
                have hfil := fun W => filled_any txt (fGet la nn) W (by have := hsh.2.2.2; dsimp only at this; omega) (by omega)
                have hwi0 := fun W (hW : Ps W ao N la) xb (hq : Ps W xb 1 [(tgt, dol txt (fGet la nn))]) => refWith_any ao N cap la xb 1 1 [(tgt, dol txt (fGet la nn))] W (by omega) (by omega) (is_fit his) (Fit.one (by have := hsh.2.2.1; dsimp only at this; show tgt.length ≤ _; omega) hvl2) hW hq
                have hw30 := withE_or la [(tgt, dol txt (fGet la nn))]
                generalize withE la [(tgt, dol txt (fGet la nn))] = we at *
                generalize withL la [(tgt, dol txt (fGet la nn))] = wl at *
                generalize dol txt (fGet la nn) = val at *
                generalize fGet la nn = gv at *
                by_cases hwe : we = 0
                · rw [decide_eq_true hwe] at hK hwi0
                  have HA : Hid _ := HSt.out hK
                  rw [hS] at HA
                  clear HSt HSp hK hS hE Hht hvl hvl2 hwe
                  go_wp2_with fail
                  have C0 : Below wr.heap.size wr wr.drew := (Below.refl _ _).drew
                  refine wp_region_noPanic ?_
                  refine wp_region_held_drew (S := fun W => Below wr.heap.size wr W) (by kernel_rfl) ?_ (fun _ => ?_)
                  · exact C0
                  generalize wr.drew = wd at *
                  refine take_at 0 (some 35) (.slice (some ⟨b, off, none⟩) m d) rfl rfl (by kernel_rfl) (by kernel_rfl) (by kernel_rfl) (fun _ _ _ h => h) (by rfl) (fun W hSw => by go_simp) C0 ?_
                  simp only [Act.put, List.setIfInBounds_toArray, List.set_cons_zero, List.set_cons_succ]
                  refine take_at 1 (some 36) (.int .i64 j) rfl rfl (by kernel_rfl) (by kernel_rfl) (by kernel_rfl) (fun _ _ _ h => h) (by rfl) (fun W hSw => by go_simp) C0 ?_
                  simp only [Act.put, List.setIfInBounds_toArray, List.set_cons_zero, List.set_cons_succ]
                  refine take_at 2 (some 37) (.pointer (some ⟨b, off + j * 6, none⟩)) rfl rfl (by kernel_rfl) (by kernel_rfl) (by kernel_rfl) (fun _ _ _ h => h) (by rfl) (fun W hSw => by go_simp) C0 ?_
                  simp only [Act.put, List.setIfInBounds_toArray, List.set_cons_zero, List.set_cons_succ]
                  refine take_at 3 (some 38) (.pointer (some ⟨b, off + j * 6 + 1, none⟩)) rfl rfl (by kernel_rfl) (by kernel_rfl) (by kernel_rfl) (fun _ _ _ h => h) (by rfl) (fun W hSw => by go_simp) C0 ?_
                  simp only [Act.put, List.setIfInBounds_toArray, List.set_cons_zero, List.set_cons_succ]
                  refine take_at 4 (some 39) (.agg #[tx nn, .int .i64 kk, tx tt]) rfl rfl (by kernel_rfl) (by kernel_rfl) (by kernel_rfl) (fun _ _ _ h => h) (by rfl) (fun W hSw => by have c1 := cell_later k1 hSw; have c2 := cell_later k2 hSw; have c3 := cell_later k3 hSw; go_simp) C0 ?_
                  simp only [Act.put, List.setIfInBounds_toArray, List.set_cons_zero, List.set_cons_succ]
                  refine take_at 5 (some 40) (.slice ao N cap) rfl rfl (by kernel_rfl) (by kernel_rfl) (by kernel_rfl) (fun _ _ _ h => h) (by rfl) (fun W hSw => by go_simp) C0 ?_
                  simp only [Act.put, List.setIfInBounds_toArray, List.set_cons_zero, List.set_cons_succ]
                  refine take_at 6 (some 41) (.slice (some ⟨b, off, none⟩) m d) rfl rfl (by kernel_rfl) (by kernel_rfl) (by kernel_rfl) (fun _ _ _ h => h) (by rfl) (fun W hSw => by go_simp) C0 ?_
                  simp only [Act.put, List.setIfInBounds_toArray, List.set_cons_zero, List.set_cons_succ]
                  refine take_at 7 (some 42) (.int .i64 j) rfl rfl (by kernel_rfl) (by kernel_rfl) (by kernel_rfl) (fun _ _ _ h => h) (by rfl) (fun W hSw => by go_simp) C0 ?_
                  simp only [Act.put, List.setIfInBounds_toArray, List.set_cons_zero, List.set_cons_succ]
                  refine take_at 8 (some 43) (.pointer (some ⟨b, off + j * 6, none⟩)) rfl rfl (by kernel_rfl) (by kernel_rfl) (by kernel_rfl) (fun _ _ _ h => h) (by rfl) (fun W hSw => by go_simp) C0 ?_
                  simp only [Act.put, List.setIfInBounds_toArray, List.set_cons_zero, List.set_cons_succ]
                  refine take_at 9 (some 44) (.pointer (some ⟨b, off + j * 6 + 1, none⟩)) rfl rfl (by kernel_rfl) (by kernel_rfl) (by kernel_rfl) (fun _ _ _ h => h) (by rfl) (fun W hSw => by go_simp) C0 ?_
                  simp only [Act.put, List.setIfInBounds_toArray, List.set_cons_zero, List.set_cons_succ]
                  refine take_at 10 (some 45) (.pointer (some ⟨b, off + j * 6 + 1, none⟩)) rfl rfl (by kernel_rfl) (by kernel_rfl) (by kernel_rfl) (fun _ _ _ h => h) (by rfl) (fun W hSw => by go_simp) C0 ?_
                  simp only [Act.put, List.setIfInBounds_toArray, List.set_cons_zero, List.set_cons_succ]
                  refine take_at 11 (some 46) (tx nn) rfl rfl (by kernel_rfl) (by kernel_rfl) (by kernel_rfl) (fun _ _ _ h => h) (by rfl) (fun W hSw => by have c1 := cell_later k1 hSw; go_simp) C0 ?_
                  simp only [Act.put, List.setIfInBounds_toArray, List.set_cons_zero, List.set_cons_succ]
                  refine wpAnyH_ready (rs := [12]) (by kernel_rfl) (by simp) ?_
                  refine AllReadyH.cons rfl (fun K hK => ?_) AllReadyH.nil
                  go_simp
                  refine (hget _ C0).mono ?_
                  rintro e wp1 ⟨rfl, rfl⟩
                  refine hK.out _ _ ?_ (fun _ => ?_)
                  · exact C0
                  clear hK K
                  refine wpAnyH_ready (rs := [13]) (by kernel_rfl) (by simp) ?_
                  refine AllReadyH.cons rfl (fun K hK => ?_) AllReadyH.nil
                  go_simp
                  refine (hone _).mono ?_
                  rintro e wc2 ⟨rfl, hc2⟩
                  have C2 := Below.chain C0 hc2
                  refine hK.out _ _ ?_ (fun _ => ?_)
                  · exact C2
                  clear hK K
                  refine take_at 14 (some 9) (.bool true) rfl rfl (by kernel_rfl) (by kernel_rfl) (by kernel_rfl) (fun _ _ _ h => h) (by rfl) (fun W hSw => by go_simp) C2 ?_
                  simp only [Act.put, List.setIfInBounds_toArray, List.set_cons_zero, List.set_cons_succ]
                  refine wpAnyH_done (by kernel_rfl) ?_ _
                  refine NoPanic.normal ?_
                  have B2 := Below.chain hb C2
                  have hps2 := hps.later C2
                  have f0' := cell_later k0 C2
                  have f1' := cell_later k1 C2
                  have f2' := cell_later k2 C2
                  have f3' := cell_later k3 C2
                  have f4' := cell_later k4 C2
                  have f5' := cell_later k5 C2
                  generalize wc2 = w2 at *
                  have hget2 := fun W (hW : Below w2.heap.size w2 W) => hget W (Below.chain C2 hW)
                  have hwi := fun W (hW : Below w2.heap.size w2 W) xb (hq : Ps W xb 1 [(tgt, val)]) => hwi0 W (hps2.later hW) xb hq
                  clear hget
                  clear C0 C2 hc2 k0 k1 k2 k3 k4 k5 hps hb hone
                  go_wp2_with fail
                  have E0 : Below w2.heap.size w2 w2.drew := (Below.refl _ _).drew
                  refine wp_region_noPanic ?_
                  refine wp_region_held_drew (S := fun W => Below w2.heap.size w2 W) (by kernel_rfl) ?_ (fun _ => ?_)
                  · exact E0
                  generalize w2.drew = wd3 at *
                  refine take_at 0 (some 105) (.slice ao N cap) rfl rfl (by kernel_rfl) (by kernel_rfl) (by kernel_rfl) (fun _ _ _ h => h) (by rfl) (fun W hSw => by go_simp) E0 ?_
                  simp only [Act.put, List.setIfInBounds_toArray, List.set_cons_zero, List.set_cons_succ]
                  refine take_at 1 (some 106) (.slice (some ⟨b, off, none⟩) m d) rfl rfl (by kernel_rfl) (by kernel_rfl) (by kernel_rfl) (fun _ _ _ h => h) (by rfl) (fun W hSw => by go_simp) E0 ?_
                  simp only [Act.put, List.setIfInBounds_toArray, List.set_cons_zero, List.set_cons_succ]
                  refine take_at 2 (some 107) (.int .i64 j) rfl rfl (by kernel_rfl) (by kernel_rfl) (by kernel_rfl) (fun _ _ _ h => h) (by rfl) (fun W hSw => by go_simp) E0 ?_
                  simp only [Act.put, List.setIfInBounds_toArray, List.set_cons_zero, List.set_cons_succ]
                  refine take_at 3 (some 108) (.pointer (some ⟨b, off + j * 6, none⟩)) rfl rfl (by kernel_rfl) (by kernel_rfl) (by kernel_rfl) (fun _ _ _ h => h) (by rfl) (fun W hSw => by go_simp) E0 ?_
                  simp only [Act.put, List.setIfInBounds_toArray, List.set_cons_zero, List.set_cons_succ]
                  refine take_at 4 (some 109) (.pointer (some ⟨b, off + j * 6 + 4, none⟩)) rfl rfl (by kernel_rfl) (by kernel_rfl) (by kernel_rfl) (fun _ _ _ h => h) (by rfl) (fun W hSw => by go_simp) E0 ?_
                  simp only [Act.put, List.setIfInBounds_toArray, List.set_cons_zero, List.set_cons_succ]
                  refine take_at 5 (some 110) (tx tgt) rfl rfl (by kernel_rfl) (by kernel_rfl) (by kernel_rfl) (fun _ _ _ h => h) (by rfl) (fun W hSw => by have c4 := cell_later f4' hSw; go_simp) E0 ?_
                  simp only [Act.put, List.setIfInBounds_toArray, List.set_cons_zero, List.set_cons_succ]
                  refine take_at 6 (some 111) (.slice (some ⟨b, off, none⟩) m d) rfl rfl (by kernel_rfl) (by kernel_rfl) (by kernel_rfl) (fun _ _ _ h => h) (by rfl) (fun W hSw => by go_simp) E0 ?_
                  simp only [Act.put, List.setIfInBounds_toArray, List.set_cons_zero, List.set_cons_succ]
                  refine take_at 7 (some 112) (.int .i64 j) rfl rfl (by kernel_rfl) (by kernel_rfl) (by kernel_rfl) (fun _ _ _ h => h) (by rfl) (fun W hSw => by go_simp) E0 ?_
                  simp only [Act.put, List.setIfInBounds_toArray, List.set_cons_zero, List.set_cons_succ]
                  refine take_at 8 (some 113) (.pointer (some ⟨b, off + j * 6, none⟩)) rfl rfl (by kernel_rfl) (by kernel_rfl) (by kernel_rfl) (fun _ _ _ h => h) (by rfl) (fun W hSw => by go_simp) E0 ?_
                  simp only [Act.put, List.setIfInBounds_toArray, List.set_cons_zero, List.set_cons_succ]
                  refine take_at 9 (some 114) (.pointer (some ⟨b, off + j * 6 + 5, none⟩)) rfl rfl (by kernel_rfl) (by kernel_rfl) (by kernel_rfl) (fun _ _ _ h => h) (by rfl) (fun W hSw => by go_simp) E0 ?_
                  simp only [Act.put, List.setIfInBounds_toArray, List.set_cons_zero, List.set_cons_succ]
                  refine take_at 10 (some 115) (tx txt) rfl rfl (by kernel_rfl) (by kernel_rfl) (by kernel_rfl) (fun _ _ _ h => h) (by rfl) (fun W hSw => by have c5 := cell_later f5' hSw; go_simp) E0 ?_
                  simp only [Act.put, List.setIfInBounds_toArray, List.set_cons_zero, List.set_cons_succ]
                  refine take_at 11 (some 116) (.slice ao N cap) rfl rfl (by kernel_rfl) (by kernel_rfl) (by kernel_rfl) (fun _ _ _ h => h) (by rfl) (fun W hSw => by go_simp) E0 ?_
                  simp only [Act.put, List.setIfInBounds_toArray, List.set_cons_zero, List.set_cons_succ]
                  refine take_at 12 (some 117) (.slice (some ⟨b, off, none⟩) m d) rfl rfl (by kernel_rfl) (by kernel_rfl) (by kernel_rfl) (fun _ _ _ h => h) (by rfl) (fun W hSw => by go_simp) E0 ?_
                  simp only [Act.put, List.setIfInBounds_toArray, List.set_cons_zero, List.set_cons_succ]
                  refine take_at 13 (some 118) (.int .i64 j) rfl rfl (by kernel_rfl) (by kernel_rfl) (by kernel_rfl) (fun _ _ _ h => h) (by rfl) (fun W hSw => by go_simp) E0 ?_
                  simp only [Act.put, List.setIfInBounds_toArray, List.set_cons_zero, List.set_cons_succ]
                  refine take_at 14 (some 119) (.pointer (some ⟨b, off + j * 6, none⟩)) rfl rfl (by kernel_rfl) (by kernel_rfl) (by kernel_rfl) (fun _ _ _ h => h) (by rfl) (fun W hSw => by go_simp) E0 ?_
                  simp only [Act.put, List.setIfInBounds_toArray, List.set_cons_zero, List.set_cons_succ]
                  refine take_at 15 (some 120) (.pointer (some ⟨b, off + j * 6 + 1, none⟩)) rfl rfl (by kernel_rfl) (by kernel_rfl) (by kernel_rfl) (fun _ _ _ h => h) (by rfl) (fun W hSw => by go_simp) E0 ?_
                  simp only [Act.put, List.setIfInBounds_toArray, List.set_cons_zero, List.set_cons_succ]
                  refine take_at 16 (some 121) (.pointer (some ⟨b, off + j * 6 + 1, none⟩)) rfl rfl (by kernel_rfl) (by kernel_rfl) (by kernel_rfl) (fun _ _ _ h => h) (by rfl) (fun W hSw => by go_simp) E0 ?_
                  simp only [Act.put, List.setIfInBounds_toArray, List.set_cons_zero, List.set_cons_succ]
                  refine take_at 17 (some 122) (tx nn) rfl rfl (by kernel_rfl) (by kernel_rfl) (by kernel_rfl) (fun _ _ _ h => h) (by rfl) (fun W hSw => by have c1 := cell_later f1' hSw; go_simp) E0 ?_
                  simp only [Act.put, List.setIfInBounds_toArray, List.set_cons_zero, List.set_cons_succ]
                  refine wpAnyH_ready (rs := [18]) (by kernel_rfl) (by simp) ?_
                  refine AllReadyH.cons rfl (fun K hK => ?_) AllReadyH.nil
                  go_simp
                  refine (hget2 _ E0).mono ?_
                  rintro e wp1 ⟨rfl, rfl⟩
                  refine hK.out _ _ ?_ (fun _ => ?_)
                  · exact E0
                  clear hK K
                  refine wpAnyH_ready (rs := [19]) (by kernel_rfl) (by simp) ?_
                  refine AllReadyH.cons rfl (fun K hK => ?_) AllReadyH.nil
                  go_simp
                  refine (hfil _).mono ?_
                  rintro e wp2 ⟨rfl, rfl⟩
                  refine hK.out _ _ ?_ (fun _ => ?_)
                  · exact E0
                  clear hK K
                  refine take_at 20 (some 125) (.agg #[tx tgt, tx val]) rfl rfl (by kernel_rfl) (by kernel_rfl) (by kernel_rfl) (fun _ _ _ h => h) (by rfl) (fun W hSw => by go_simp) E0 ?_
                  simp only [Act.put, List.setIfInBounds_toArray, List.set_cons_zero, List.set_cons_succ]
                  refine wpAnyH_ready (rs := [21]) (by kernel_rfl) (by simp) ?_
                  refine AllReadyH.cons rfl (fun K hK => ?_) AllReadyH.nil
                  go_simp
                  have hnew := Ps.one wd3 (tgt, val)
                  have E3 := bal E0 (.cells #[tx tgt, tx val] 44)
                  generalize wd3.alloc (.cells #[tx tgt, tx val] 44) = wa3 at *
                  refine hK.out _ _ ?_ (fun _ => ?_)
                  · exact E3
                  clear hK K
                  refine wpAnyH_ready (rs := [22]) (by kernel_rfl) (by simp) ?_
                  refine AllReadyH.cons rfl (fun K hK => ?_) AllReadyH.nil
                  go_simp
                  refine (hwi _ E3 _ hnew).mono ?_
                  rintro e wc4 ⟨v4, rfl, o4, hc4⟩
                  have E4 := Below.chain E3 hc4
                  obtain ⟨ao4, cap4, rfl, hps4⟩ := o4.fitN
                  refine hK.out _ _ ?_ (fun _ => ?_)
                  · exact E4
                  clear hK K
                  refine take_at 23 (some 104) (.tuple #[.slice ao4 wl.length cap4, .bool true]) rfl rfl (by kernel_rfl) (by kernel_rfl) (by kernel_rfl) (fun _ _ _ h => h) (by rfl) (fun W hSw => by go_simp) E4 ?_
                  simp only [Act.put, List.setIfInBounds_toArray, List.set_cons_zero, List.set_cons_succ]
                  refine take_at 24 (some 128) (.slice ao4 wl.length cap4) rfl rfl (by kernel_rfl) (by kernel_rfl) (by kernel_rfl) (fun _ _ _ h => h) (by rfl) (fun W hSw => by go_simp) E4 ?_
                  simp only [Act.put, List.setIfInBounds_toArray, List.set_cons_zero, List.set_cons_succ]
                  refine take_at 25 (some 129) (.bool true) rfl rfl (by kernel_rfl) (by kernel_rfl) (by kernel_rfl) (fun _ _ _ h => h) (by rfl) (fun W hSw => by go_simp) E4 ?_
                  simp only [Act.put, List.setIfInBounds_toArray, List.set_cons_zero, List.set_cons_succ]
                  refine take_at 26 (some 10) (.slice ao4 wl.length cap4) rfl rfl (by kernel_rfl) (by kernel_rfl) (by kernel_rfl) (fun _ _ _ h => h) (by rfl) (fun W hSw => by go_simp) E4 ?_
                  simp only [Act.put, List.setIfInBounds_toArray, List.set_cons_zero, List.set_cons_succ]
                  refine take_at 27 (some 11) (.bool true) rfl rfl (by kernel_rfl) (by kernel_rfl) (by kernel_rfl) (fun _ _ _ h => h) (by rfl) (fun W hSw => by go_simp) E4 ?_
                  simp only [Act.put, List.setIfInBounds_toArray, List.set_cons_zero, List.set_cons_succ]
                  refine wpAnyH_done (by kernel_rfl) ?_ _
                  refine NoPanic.normal ?_
                  have B4 := Below.chain B2 E4
                  clear E0 E3 E4 hwi hwi0 hnew hc4 o4
                  go_wp2_with fail
                  go_roundw
                  case rel => exact ⟨j + 1, ao4, wl.length, cap4, by omega, by go_num, rfl, by rw [HA.out.2]; exact hps4, HA.out.1, B4⟩
                  case measure => simp [intOf]; omega
                · rw [decide_eq_false hwe] at hK hwi0
                  have hwe30 : we = 30 := by
                    rcases hw30 with h | h
                    · exact absurd h hwe
                    · exact h
                  have HF : Hid (fApply l rs = ([], false, 30)) := by show _ = _; rw [HR.out, HSp.out hK, hE, hwe30]
                  clear HSt HSp hK hS hE Hht hvl hvl2 hwe hwe30 HR hw30
                  go_wp2_with fail
                  have C0 : Below wr.heap.size wr wr.drew := (Below.refl _ _).drew
                  refine wp_region_noPanic ?_
                  refine wp_region_held_drew (S := fun W => Below wr.heap.size wr W) (by kernel_rfl) ?_ (fun _ => ?_)
                  · exact C0
                  generalize wr.drew = wd at *
                  refine take_at 0 (some 35) (.slice (some ⟨b, off, none⟩) m d) rfl rfl (by kernel_rfl) (by kernel_rfl) (by kernel_rfl) (fun _ _ _ h => h) (by rfl) (fun W hSw => by go_simp) C0 ?_
                  simp only [Act.put, List.setIfInBounds_toArray, List.set_cons_zero, List.set_cons_succ]
                  refine take_at 1 (some 36) (.int .i64 j) rfl rfl (by kernel_rfl) (by kernel_rfl) (by kernel_rfl) (fun _ _ _ h => h) (by rfl) (fun W hSw => by go_simp) C0 ?_
                  simp only [Act.put, List.setIfInBounds_toArray, List.set_cons_zero, List.set_cons_succ]
                  refine take_at 2 (some 37) (.pointer (some ⟨b, off + j * 6, none⟩)) rfl rfl (by kernel_rfl) (by kernel_rfl) (by kernel_rfl) (fun _ _ _ h => h) (by rfl) (fun W hSw => by go_simp) C0 ?_
                  simp only [Act.put, List.setIfInBounds_toArray, List.set_cons_zero, List.set_cons_succ]
                  refine take_at 3 (some 38) (.pointer (some ⟨b, off + j * 6 + 1, none⟩)) rfl rfl (by kernel_rfl) (by kernel_rfl) (by kernel_rfl) (fun _ _ _ h => h) (by rfl) (fun W hSw => by go_simp) C0 ?_
                  simp only [Act.put, List.setIfInBounds_toArray, List.set_cons_zero, List.set_cons_succ]
                  refine take_at 4 (some 39) (.agg #[tx nn, .int .i64 kk, tx tt]) rfl rfl (by kernel_rfl) (by kernel_rfl) (by kernel_rfl) (fun _ _ _ h => h) (by rfl) (fun W hSw => by have c1 := cell_later k1 hSw; have c2 := cell_later k2 hSw; have c3 := cell_later k3 hSw; go_simp) C0 ?_
                  simp only [Act.put, List.setIfInBounds_toArray, List.set_cons_zero, List.set_cons_succ]
                  refine take_at 5 (some 40) (.slice ao N cap) rfl rfl (by kernel_rfl) (by kernel_rfl) (by kernel_rfl) (fun _ _ _ h => h) (by rfl) (fun W hSw => by go_simp) C0 ?_
                  simp only [Act.put, List.setIfInBounds_toArray, List.set_cons_zero, List.set_cons_succ]
                  refine take_at 6 (some 41) (.slice (some ⟨b, off, none⟩) m d) rfl rfl (by kernel_rfl) (by kernel_rfl) (by kernel_rfl) (fun _ _ _ h => h) (by rfl) (fun W hSw => by go_simp) C0 ?_
                  simp only [Act.put, List.setIfInBounds_toArray, List.set_cons_zero, List.set_cons_succ]
                  refine take_at 7 (some 42) (.int .i64 j) rfl rfl (by kernel_rfl) (by kernel_rfl) (by kernel_rfl) (fun _ _ _ h => h) (by rfl) (fun W hSw => by go_simp) C0 ?_
                  simp only [Act.put, List.setIfInBounds_toArray, List.set_cons_zero, List.set_cons_succ]
                  refine take_at 8 (some 43) (.pointer (some ⟨b, off + j * 6, none⟩)) rfl rfl (by kernel_rfl) (by kernel_rfl) (by kernel_rfl) (fun _ _ _ h => h) (by rfl) (fun W hSw => by go_simp) C0 ?_
                  simp only [Act.put, List.setIfInBounds_toArray, List.set_cons_zero, List.set_cons_succ]
                  refine take_at 9 (some 44) (.pointer (some ⟨b, off + j * 6 + 1, none⟩)) rfl rfl (by kernel_rfl) (by kernel_rfl) (by kernel_rfl) (fun _ _ _ h => h) (by rfl) (fun W hSw => by go_simp) C0 ?_
                  simp only [Act.put, List.setIfInBounds_toArray, List.set_cons_zero, List.set_cons_succ]
                  refine take_at 10 (some 45) (.pointer (some ⟨b, off + j * 6 + 1, none⟩)) rfl rfl (by kernel_rfl) (by kernel_rfl) (by kernel_rfl) (fun _ _ _ h => h) (by rfl) (fun W hSw => by go_simp) C0 ?_
                  simp only [Act.put, List.setIfInBounds_toArray, List.set_cons_zero, List.set_cons_succ]
                  refine take_at 11 (some 46) (tx nn) rfl rfl (by kernel_rfl) (by kernel_rfl) (by kernel_rfl) (fun _ _ _ h => h) (by rfl) (fun W hSw => by have c1 := cell_later k1 hSw; go_simp) C0 ?_
                  simp only [Act.put, List.setIfInBounds_toArray, List.set_cons_zero, List.set_cons_succ]
                  refine wpAnyH_ready (rs := [12]) (by kernel_rfl) (by simp) ?_
                  refine AllReadyH.cons rfl (fun K hK => ?_) AllReadyH.nil
                  go_simp
                  refine (hget _ C0).mono ?_
                  rintro e wp1 ⟨rfl, rfl⟩
                  refine hK.out _ _ ?_ (fun _ => ?_)
                  · exact C0
                  clear hK K
                  refine wpAnyH_ready (rs := [13]) (by kernel_rfl) (by simp) ?_
                  refine AllReadyH.cons rfl (fun K hK => ?_) AllReadyH.nil
                  go_simp
                  refine (hone _).mono ?_
                  rintro e wc2 ⟨rfl, hc2⟩
                  have C2 := Below.chain C0 hc2
                  refine hK.out _ _ ?_ (fun _ => ?_)
                  · exact C2
                  clear hK K
                  refine take_at 14 (some 9) (.bool true) rfl rfl (by kernel_rfl) (by kernel_rfl) (by kernel_rfl) (fun _ _ _ h => h) (by rfl) (fun W hSw => by go_simp) C2 ?_
                  simp only [Act.put, List.setIfInBounds_toArray, List.set_cons_zero, List.set_cons_succ]
                  refine wpAnyH_done (by kernel_rfl) ?_ _
                  refine NoPanic.normal ?_
                  have B2 := Below.chain hb C2
                  have hps2 := hps.later C2
                  have f0' := cell_later k0 C2
                  have f1' := cell_later k1 C2
                  have f2' := cell_later k2 C2
                  have f3' := cell_later k3 C2
                  have f4' := cell_later k4 C2
                  have f5' := cell_later k5 C2
                  generalize wc2 = w2 at *
                  have hget2 := fun W (hW : Below w2.heap.size w2 W) => hget W (Below.chain C2 hW)
                  have hwi := fun W (hW : Below w2.heap.size w2 W) xb (hq : Ps W xb 1 [(tgt, val)]) => hwi0 W (hps2.later hW) xb hq
                  clear hget
                  clear C0 C2 hc2 k0 k1 k2 k3 k4 k5 hps hb hone
                  go_wp2_with fail
                  have E0 : Below w2.heap.size w2 w2.drew := (Below.refl _ _).drew
                  refine wp_region_noPanic ?_
                  refine wp_region_held_drew (S := fun W => Below w2.heap.size w2 W) (by kernel_rfl) ?_ (fun _ => ?_)
                  · exact E0
                  generalize w2.drew = wd3 at *
                  refine take_at 0 (some 105) (.slice ao N cap) rfl rfl (by kernel_rfl) (by kernel_rfl) (by kernel_rfl) (fun _ _ _ h => h) (by rfl) (fun W hSw => by go_simp) E0 ?_
                  simp only [Act.put, List.setIfInBounds_toArray, List.set_cons_zero, List.set_cons_succ]
                  refine take_at 1 (some 106) (.slice (some ⟨b, off, none⟩) m d) rfl rfl (by kernel_rfl) (by kernel_rfl) (by kernel_rfl) (fun _ _ _ h => h) (by rfl) (fun W hSw => by go_simp) E0 ?_
                  simp only [Act.put, List.setIfInBounds_toArray, List.set_cons_zero, List.set_cons_succ]
                  refine take_at 2 (some 107) (.int .i64 j) rfl rfl (by kernel_rfl) (by kernel_rfl) (by kernel_rfl) (fun _ _ _ h => h) (by rfl) (fun W hSw => by go_simp) E0 ?_
                  simp only [Act.put, List.setIfInBounds_toArray, List.set_cons_zero, List.set_cons_succ]
                  refine take_at 3 (some 108) (.pointer (some ⟨b, off + j * 6, none⟩)) rfl rfl (by kernel_rfl) (by kernel_rfl) (by kernel_rfl) (fun _ _ _ h => h) (by rfl) (fun W hSw => by go_simp) E0 ?_
                  simp only [Act.put, List.setIfInBounds_toArray, List.set_cons_zero, List.set_cons_succ]
                  refine take_at 4 (some 109) (.pointer (some ⟨b, off + j * 6 + 4, none⟩)) rfl rfl (by kernel_rfl) (by kernel_rfl) (by kernel_rfl) (fun _ _ _ h => h) (by rfl) (fun W hSw => by go_simp) E0 ?_
                  simp only [Act.put, List.setIfInBounds_toArray, List.set_cons_zero, List.set_cons_succ]
                  refine take_at 5 (some 110) (tx tgt) rfl rfl (by kernel_rfl) (by kernel_rfl) (by kernel_rfl) (fun _ _ _ h => h) (by rfl) (fun W hSw => by have c4 := cell_later f4' hSw; go_simp) E0 ?_
                  simp only [Act.put, List.setIfInBounds_toArray, List.set_cons_zero, List.set_cons_succ]
                  refine take_at 6 (some 111) (.slice (some ⟨b, off, none⟩) m d) rfl rfl (by kernel_rfl) (by kernel_rfl) (by kernel_rfl) (fun _ _ _ h => h) (by rfl) (fun W hSw => by go_simp) E0 ?_
                  simp only [Act.put, List.setIfInBounds_toArray, List.set_cons_zero, List.set_cons_succ]
                  refine take_at 7 (some 112) (.int .i64 j) rfl rfl (by kernel_rfl) (by kernel_rfl) (by kernel_rfl) (fun _ _ _ h => h) (by rfl) (fun W hSw => by go_simp) E0 ?_
                  simp only [Act.put, List.setIfInBounds_toArray, List.set_cons_zero, List.set_cons_succ]
                  refine take_at 8 (some 113) (.pointer (some ⟨b, off + j * 6, none⟩)) rfl rfl (by kernel_rfl) (by kernel_rfl) (by kernel_rfl) (fun _ _ _ h => h) (by rfl) (fun W hSw => by go_simp) E0 ?_
                  simp only [Act.put, List.setIfInBounds_toArray, List.set_cons_zero, List.set_cons_succ]
                  refine take_at 9 (some 114) (.pointer (some ⟨b, off + j * 6 + 5, none⟩)) rfl rfl (by kernel_rfl) (by kernel_rfl) (by kernel_rfl) (fun _ _ _ h => h) (by rfl) (fun W hSw => by go_simp) E0 ?_
                  simp only [Act.put, List.setIfInBounds_toArray, List.set_cons_zero, List.set_cons_succ]
                  refine take_at 10 (some 115) (tx txt) rfl rfl (by kernel_rfl) (by kernel_rfl) (by kernel_rfl) (fun _ _ _ h => h) (by rfl) (fun W hSw => by have c5 := cell_later f5' hSw; go_simp) E0 ?_
                  simp only [Act.put, List.setIfInBounds_toArray, List.set_cons_zero, List.set_cons_succ]
                  refine take_at 11 (some 116) (.slice ao N cap) rfl rfl (by kernel_rfl) (by kernel_rfl) (by kernel_rfl) (fun _ _ _ h => h) (by rfl) (fun W hSw => by go_simp) E0 ?_
                  simp only [Act.put, List.setIfInBounds_toArray, List.set_cons_zero, List.set_cons_succ]
                  refine take_at 12 (some 117) (.slice (some ⟨b, off, none⟩) m d) rfl rfl (by kernel_rfl) (by kernel_rfl) (by kernel_rfl) (fun _ _ _ h => h) (by rfl) (fun W hSw => by go_simp) E0 ?_
                  simp only [Act.put, List.setIfInBounds_toArray, List.set_cons_zero, List.set_cons_succ]
                  refine take_at 13 (some 118) (.int .i64 j) rfl rfl (by kernel_rfl) (by kernel_rfl) (by kernel_rfl) (fun _ _ _ h => h) (by rfl) (fun W hSw => by go_simp) E0 ?_
                  simp only [Act.put, List.setIfInBounds_toArray, List.set_cons_zero, List.set_cons_succ]
                  refine take_at 14 (some 119) (.pointer (some ⟨b, off + j * 6, none⟩)) rfl rfl (by kernel_rfl) (by kernel_rfl) (by kernel_rfl) (fun _ _ _ h => h) (by rfl) (fun W hSw => by go_simp) E0 ?_
                  simp only [Act.put, List.setIfInBounds_toArray, List.set_cons_zero, List.set_cons_succ]
                  refine take_at 15 (some 120) (.pointer (some ⟨b, off + j * 6 + 1, none⟩)) rfl rfl (by kernel_rfl) (by kernel_rfl) (by kernel_rfl) (fun _ _ _ h => h) (by rfl) (fun W hSw => by go_simp) E0 ?_
                  simp only [Act.put, List.setIfInBounds_toArray, List.set_cons_zero, List.set_cons_succ]
                  refine take_at 16 (some 121) (.pointer (some ⟨b, off + j * 6 + 1, none⟩)) rfl rfl (by kernel_rfl) (by kernel_rfl) (by kernel_rfl) (fun _ _ _ h => h) (by rfl) (fun W hSw => by go_simp) E0 ?_
                  simp only [Act.put, List.setIfInBounds_toArray, List.set_cons_zero, List.set_cons_succ]
                  refine take_at 17 (some 122) (tx nn) rfl rfl (by kernel_rfl) (by kernel_rfl) (by kernel_rfl) (fun _ _ _ h => h) (by rfl) (fun W hSw => by have c1 := cell_later f1' hSw; go_simp) E0 ?_
                  simp only [Act.put, List.setIfInBounds_toArray, List.set_cons_zero, List.set_cons_succ]
                  refine wpAnyH_ready (rs := [18]) (by kernel_rfl) (by simp) ?_
                  refine AllReadyH.cons rfl (fun K hK => ?_) AllReadyH.nil
                  go_simp
                  refine (hget2 _ E0).mono ?_
                  rintro e wp1 ⟨rfl, rfl⟩
                  refine hK.out _ _ ?_ (fun _ => ?_)
                  · exact E0
                  clear hK K
                  refine wpAnyH_ready (rs := [19]) (by kernel_rfl) (by simp) ?_
                  refine AllReadyH.cons rfl (fun K hK => ?_) AllReadyH.nil
                  go_simp
                  refine (hfil _).mono ?_
                  rintro e wp2 ⟨rfl, rfl⟩
                  refine hK.out _ _ ?_ (fun _ => ?_)
                  · exact E0
                  clear hK K
                  refine take_at 20 (some 125) (.agg #[tx tgt, tx val]) rfl rfl (by kernel_rfl) (by kernel_rfl) (by kernel_rfl) (fun _ _ _ h => h) (by rfl) (fun W hSw => by go_simp) E0 ?_
                  simp only [Act.put, List.setIfInBounds_toArray, List.set_cons_zero, List.set_cons_succ]
                  refine wpAnyH_ready (rs := [21]) (by kernel_rfl) (by simp) ?_
                  refine AllReadyH.cons rfl (fun K hK => ?_) AllReadyH.nil
                  go_simp
                  have hnew := Ps.one wd3 (tgt, val)
                  have E3 := bal E0 (.cells #[tx tgt, tx val] 44)
                  generalize wd3.alloc (.cells #[tx tgt, tx val] 44) = wa3 at *
                  refine hK.out _ _ ?_ (fun _ => ?_)
                  · exact E3
                  clear hK K
                  refine wpAnyH_ready (rs := [22]) (by kernel_rfl) (by simp) ?_
                  refine AllReadyH.cons rfl (fun K hK => ?_) AllReadyH.nil
                  go_simp
                  refine (hwi _ E3 _ hnew).mono ?_
                  rintro e wc4 ⟨v4, rfl, o4, hc4⟩
                  have E4 := Below.chain E3 hc4
                  obtain ⟨ao4, cap4, rfl, hps4⟩ := o4.fitN
                  refine hK.out _ _ ?_ (fun _ => ?_)
                  · exact E4
                  clear hK K
                  refine take_at 23 (some 104) (.tuple #[.slice ao4 wl.length cap4, .bool false]) rfl rfl (by kernel_rfl) (by kernel_rfl) (by kernel_rfl) (fun _ _ _ h => h) (by rfl) (fun W hSw => by go_simp) E4 ?_
                  simp only [Act.put, List.setIfInBounds_toArray, List.set_cons_zero, List.set_cons_succ]
                  refine take_at 24 (some 128) (.slice ao4 wl.length cap4) rfl rfl (by kernel_rfl) (by kernel_rfl) (by kernel_rfl) (fun _ _ _ h => h) (by rfl) (fun W hSw => by go_simp) E4 ?_
                  simp only [Act.put, List.setIfInBounds_toArray, List.set_cons_zero, List.set_cons_succ]
                  refine take_at 25 (some 129) (.bool false) rfl rfl (by kernel_rfl) (by kernel_rfl) (by kernel_rfl) (fun _ _ _ h => h) (by rfl) (fun W hSw => by go_simp) E4 ?_
                  simp only [Act.put, List.setIfInBounds_toArray, List.set_cons_zero, List.set_cons_succ]
                  refine take_at 26 (some 10) (.slice ao4 wl.length cap4) rfl rfl (by kernel_rfl) (by kernel_rfl) (by kernel_rfl) (fun _ _ _ h => h) (by rfl) (fun W hSw => by go_simp) E4 ?_
                  simp only [Act.put, List.setIfInBounds_toArray, List.set_cons_zero, List.set_cons_succ]
                  refine take_at 27 (some 11) (.bool false) rfl rfl (by kernel_rfl) (by kernel_rfl) (by kernel_rfl) (fun _ _ _ h => h) (by rfl) (fun W hSw => by go_simp) E4 ?_
                  simp only [Act.put, List.setIfInBounds_toArray, List.set_cons_zero, List.set_cons_succ]
                  refine wpAnyH_done (by kernel_rfl) ?_ _
                  refine NoPanic.normal ?_
                  have B4 := Below.chain B2 E4
                  clear E0 E3 E4 hwi hwi0 hnew hc4 o4
                  go_wp2_with fail
                  go_ret3
                  exact ⟨none, 0, 0, by rw [HF.out]; rfl, by rw [HF.out]; exact Ps.nil _ _, B4⟩
            · obtain ⟨hK, hS, hE⟩ := s_thin la ⟨nn, kk, tt⟩ tgt txt
              have HA : Hid _ := HSt.out hK
              rw [hS] at HA
              have hfit := is_fit his
              have HLN : Hid (la.length = N) := hps.1
              have hglobq := fun q W => refGlob_any tt (la.getD q ([], [])).1 W hfrj.2.1 (by
                by_cases hq : q < la.length
                · rw [getD_at hq]; have := ((is_short his).2 _ (List.getElem_mem hq)).1; omega
                · rw [List.getD, List.getElem?_eq_none (by omega)]; simp)
              have HSY : Hid (∀ q, stays ⟨4, ⟨nn, kk, tt⟩, tgt, txt⟩ (la.getD q ([], [])) = (decide ((la.getD q ([], [])).1 = nm) || !gm tt (la.getD q ([], [])).1)) := fun _ => rfl
              have HFY : Hid (∀ q, q < la.length → stays ⟨4, ⟨nn, kk, tt⟩, tgt, txt⟩ (la.getD q ([], [])) = true → stUp ⟨4, ⟨nn, kk, tt⟩, tgt, txt⟩ la (q + 1) = stUp ⟨4, ⟨nn, kk, tt⟩, tgt, txt⟩ la q ++ [la.getD q ([], [])]) := fun q hq h => take_filter_yes hq h
              have HFN : Hid (∀ q, q < la.length → stays ⟨4, ⟨nn, kk, tt⟩, tgt, txt⟩ (la.getD q ([], [])) = false → stUp ⟨4, ⟨nn, kk, tt⟩, tgt, txt⟩ la (q + 1) = stUp ⟨4, ⟨nn, kk, tt⟩, tgt, txt⟩ la q) := fun q hq h => take_filter_no hq h
              have HFA : Hid (∀ q, la.length ≤ q → stUp ⟨4, ⟨nn, kk, tt⟩, tgt, txt⟩ la q = la.filter (stays ⟨4, ⟨nn, kk, tt⟩, tgt, txt⟩)) := fun q hq => by show (la.take q).filter _ = _; rw [List.take_of_length_le hq]
              have HF0 : Hid (stUp ⟨4, ⟨nn, kk, tt⟩, tgt, txt⟩ la 0 = []) := rfl
              generalize stUp ⟨4, ⟨nn, kk, tt⟩, tgt, txt⟩ la = up at *
              generalize stays ⟨4, ⟨nn, kk, tt⟩, tgt, txt⟩ = sy at *
              clear HSt HSp hK hS hE Hht his
              go_wp2_with fail
              have C0 : Below wr.heap.size wr wr.drew := (Below.refl _ _).drew
              refine wp_region_noPanic ?_
              refine wp_region_held_drew (S := fun W => Below wr.heap.size wr W) (by kernel_rfl) ?_ (fun _ => ?_)
              · exact C0
              generalize wr.drew = wd at *
              refine take_at 0 (some 35) (.slice (some ⟨b, off, none⟩) m d) rfl rfl (by kernel_rfl) (by kernel_rfl) (by kernel_rfl) (fun _ _ _ h => h) (by rfl) (fun W hSw => by go_simp) C0 ?_
              simp only [Act.put, List.setIfInBounds_toArray, List.set_cons_zero, List.set_cons_succ]
              refine take_at 1 (some 36) (.int .i64 j) rfl rfl (by kernel_rfl) (by kernel_rfl) (by kernel_rfl) (fun _ _ _ h => h) (by rfl) (fun W hSw => by go_simp) C0 ?_
              simp only [Act.put, List.setIfInBounds_toArray, List.set_cons_zero, List.set_cons_succ]
              refine take_at 2 (some 37) (.pointer (some ⟨b, off + j * 6, none⟩)) rfl rfl (by kernel_rfl) (by kernel_rfl) (by kernel_rfl) (fun _ _ _ h => h) (by rfl) (fun W hSw => by go_simp) C0 ?_
              simp only [Act.put, List.setIfInBounds_toArray, List.set_cons_zero, List.set_cons_succ]
              refine take_at 3 (some 38) (.pointer (some ⟨b, off + j * 6 + 1, none⟩)) rfl rfl (by kernel_rfl) (by kernel_rfl) (by kernel_rfl) (fun _ _ _ h => h) (by rfl) (fun W hSw => by go_simp) C0 ?_
              simp only [Act.put, List.setIfInBounds_toArray, List.set_cons_zero, List.set_cons_succ]
              refine take_at 4 (some 39) (.agg #[tx nn, .int .i64 kk, tx tt]) rfl rfl (by kernel_rfl) (by kernel_rfl) (by kernel_rfl) (fun _ _ _ h => h) (by rfl) (fun W hSw => by have c1 := cell_later k1 hSw; have c2 := cell_later k2 hSw; have c3 := cell_later k3 hSw; go_simp) C0 ?_
              simp only [Act.put, List.setIfInBounds_toArray, List.set_cons_zero, List.set_cons_succ]
              refine take_at 5 (some 40) (.slice ao N cap) rfl rfl (by kernel_rfl) (by kernel_rfl) (by kernel_rfl) (fun _ _ _ h => h) (by rfl) (fun W hSw => by go_simp) C0 ?_
              simp only [Act.put, List.setIfInBounds_toArray, List.set_cons_zero, List.set_cons_succ]
              refine take_at 6 (some 41) (.slice (some ⟨b, off, none⟩) m d) rfl rfl (by kernel_rfl) (by kernel_rfl) (by kernel_rfl) (fun _ _ _ h => h) (by rfl) (fun W hSw => by go_simp) C0 ?_
              simp only [Act.put, List.setIfInBounds_toArray, List.set_cons_zero, List.set_cons_succ]
              refine take_at 7 (some 42) (.int .i64 j) rfl rfl (by kernel_rfl) (by kernel_rfl) (by kernel_rfl) (fun _ _ _ h => h) (by rfl) (fun W hSw => by go_simp) C0 ?_
              simp only [Act.put, List.setIfInBounds_toArray, List.set_cons_zero, List.set_cons_succ]
              refine take_at 8 (some 43) (.pointer (some ⟨b, off + j * 6, none⟩)) rfl rfl (by kernel_rfl) (by kernel_rfl) (by kernel_rfl) (fun _ _ _ h => h) (by rfl) (fun W hSw => by go_simp) C0 ?_
              simp only [Act.put, List.setIfInBounds_toArray, List.set_cons_zero, List.set_cons_succ]
              refine take_at 9 (some 44) (.pointer (some ⟨b, off + j * 6 + 1, none⟩)) rfl rfl (by kernel_rfl) (by kernel_rfl) (by kernel_rfl) (fun _ _ _ h => h) (by rfl) (fun W hSw => by go_simp) C0 ?_
              simp only [Act.put, List.setIfInBounds_toArray, List.set_cons_zero, List.set_cons_succ]
              refine take_at 10 (some 45) (.pointer (some ⟨b, off + j * 6 + 1, none⟩)) rfl rfl (by kernel_rfl) (by kernel_rfl) (by kernel_rfl) (fun _ _ _ h => h) (by rfl) (fun W hSw => by go_simp) C0 ?_
              simp only [Act.put, List.setIfInBounds_toArray, List.set_cons_zero, List.set_cons_succ]
              refine take_at 11 (some 46) (tx nn) rfl rfl (by kernel_rfl) (by kernel_rfl) (by kernel_rfl) (fun _ _ _ h => h) (by rfl) (fun W hSw => by have c1 := cell_later k1 hSw; go_simp) C0 ?_
              simp only [Act.put, List.setIfInBounds_toArray, List.set_cons_zero, List.set_cons_succ]
              refine wpAnyH_ready (rs := [12]) (by kernel_rfl) (by simp) ?_
              refine AllReadyH.cons rfl (fun K hK => ?_) AllReadyH.nil
              go_simp
              refine (hget _ C0).mono ?_
              rintro e wp1 ⟨rfl, rfl⟩
              refine hK.out _ _ ?_ (fun _ => ?_)
              · exact C0
              clear hK K
              refine wpAnyH_ready (rs := [13]) (by kernel_rfl) (by simp) ?_
              refine AllReadyH.cons rfl (fun K hK => ?_) AllReadyH.nil
              go_simp
              refine (hone _).mono ?_
              rintro e wc2 ⟨rfl, hc2⟩
              have C2 := Below.chain C0 hc2
              refine hK.out _ _ ?_ (fun _ => ?_)
              · exact C2
              clear hK K
              refine take_at 14 (some 9) (.bool ht) rfl rfl (by kernel_rfl) (by kernel_rfl) (by kernel_rfl) (fun _ _ _ h => h) (by rfl) (fun W hSw => by go_simp) C2 ?_
              simp only [Act.put, List.setIfInBounds_toArray, List.set_cons_zero, List.set_cons_succ]
              refine wpAnyH_done (by kernel_rfl) ?_ _
              refine NoPanic.normal ?_
              have B2 := Below.chain hb C2
              have hps2 := hps.later C2
              have f0' := cell_later k0 C2
              have f1' := cell_later k1 C2
              have f2' := cell_later k2 C2
              have f3' := cell_later k3 C2
              have f4' := cell_later k4 C2
              have f5' := cell_later k5 C2
              generalize wc2 = w2 at *
              clear C0 C2 hc2 k0 k1 k2 k3 k4 k5 hps hb hone
              clear hget
              obtain ⟨_, hcl⟩ := hps2
              go_wp2_with fail
              go_loopw [13, 12] (fun i u W => ∃ (q : Nat) (v : Value) (out : List Pr), q ≤ N ∧ i = .int .i64 q ∧ v = u ∧ Own W w2.heap.size v out ∧ Hid (out = up q) ∧ out.length ≤ q ∧ Below w2.heap.size w2 W) (fun i _ _ => N - (intOf i).toNat)
              case atStart => exact ⟨0, _, [], by omega, rfl, rfl, Own.none _ _, HF0.out.symm, Nat.le_refl _, Below.refl _ _⟩
              case round =>
                obtain ⟨q, v, out, hq, rfl, rfl, ho, HO, hol, hbq⟩ := hrel
                by_cases hltq : q < N
                · obtain ⟨b2, off2, rfl, hcq⟩ := hcl (by omega)
                  obtain ⟨g0, g1⟩ := hcq q hltq
                  have f0 := cell_later g0 hbq
                  have f1 := cell_later g1 hbq
                  have f3 := cell_later f3' hbq
                  have hlq : q < la.length := by rw [HLN.out]; exact hltq
                  have HYq : Hid _ := HFY.out q hlq
                  have HNq : Hid _ := HFN.out q hlq
                  have HSq : Hid _ := HSY.out q
                  have hglob := hglobq q
                  clear hcq hcl g0 g1 hlq HFY HFN HSY hglobq HFA HF0
                  generalize la.getD q ([], []) = p at *
                  obtain ⟨p1, p2⟩ := p
                  dsimp only at *
                  by_cases he : p1 = nm
                  · have he1 : (p1 == [95, 95, 110, 97, 109, 101, 95, 95]) = true := beq_iff_eq.2 he
                    have HT : Hid (out ++ [(p1, p2)] = up (q + 1)) := by show _ = _; rw [HO.out, HYq.out (by rw [HSq.out, decide_eq_true he]; rfl)]
                    clear HYq HNq HSq HO he hglob
                    go_wp2_with fail
                    have D0 : Below wr.heap.size wr wr.drew := (Below.refl _ _).drew
                    refine wp_region_noPanic ?_
                    refine wp_region_held_drew (S := fun W => Below wr.heap.size wr W) (by kernel_rfl) ?_ (fun _ => ?_)
                    · exact D0
                    generalize wr.drew = wd2 at *
                    refine take_at 0 (some 60) (.slice (some ⟨b2, off2, none⟩) N cap) rfl rfl (by kernel_rfl) (by kernel_rfl) (by kernel_rfl) (fun _ _ _ h => h) (by rfl) (fun W hSw => by go_simp) D0 ?_
                    simp only [Act.put, List.setIfInBounds_toArray, List.set_cons_zero, List.set_cons_succ]
                    refine take_at 1 (some 61) (.int .i64 q) rfl rfl (by kernel_rfl) (by kernel_rfl) (by kernel_rfl) (fun _ _ _ h => h) (by rfl) (fun W hSw => by go_simp) D0 ?_
                    simp only [Act.put, List.setIfInBounds_toArray, List.set_cons_zero, List.set_cons_succ]
                    refine take_at 2 (some 62) (.pointer (some ⟨b2, off2 + q * 2, none⟩)) rfl rfl (by kernel_rfl) (by kernel_rfl) (by kernel_rfl) (fun _ _ _ h => h) (by rfl) (fun W hSw => by go_simp) D0 ?_
                    simp only [Act.put, List.setIfInBounds_toArray, List.set_cons_zero, List.set_cons_succ]
                    refine take_at 3 (some 63) (.pointer (some ⟨b2, off2 + q * 2, none⟩)) rfl rfl (by kernel_rfl) (by kernel_rfl) (by kernel_rfl) (fun _ _ _ h => h) (by rfl) (fun W hSw => by go_simp) D0 ?_
                    simp only [Act.put, List.setIfInBounds_toArray, List.set_cons_zero, List.set_cons_succ]
                    refine take_at 4 (some 64) (tx p1) rfl rfl (by kernel_rfl) (by kernel_rfl) (by kernel_rfl) (fun _ _ _ h => h) (by rfl) (fun W hSw => by have e0 := cell_later f0 hSw; go_simp) D0 ?_
                    simp only [Act.put, List.setIfInBounds_toArray, List.set_cons_zero, List.set_cons_succ]
                    refine take_at 5 (some 65) (.bool true) rfl rfl (by kernel_rfl) (by kernel_rfl) (by kernel_rfl) (fun _ _ _ h => h) (by rfl) (fun W hSw => by go_simp) D0 ?_
                    simp only [Act.put, List.setIfInBounds_toArray, List.set_cons_zero, List.set_cons_succ]
                    refine take_at 6 (some 66) (.bool true) rfl rfl (by kernel_rfl) (by kernel_rfl) (by kernel_rfl) (fun _ _ _ h => h) (by rfl) (fun W hSw => by go_simp) D0 ?_
                    simp only [Act.put, List.setIfInBounds_toArray, List.set_cons_zero, List.set_cons_succ]
                    refine skip_at 7 (some 67) rfl rfl (by kernel_rfl) (by kernel_rfl) (by kernel_rfl) (fun _ _ _ h => h) (by rfl) D0 ?_
                    simp only [Act.put, List.setIfInBounds_toArray, List.set_cons_zero, List.set_cons_succ]
                    refine skip_at 8 (some 68) rfl rfl (by kernel_rfl) (by kernel_rfl) (by kernel_rfl) (fun _ _ _ h => h) (by rfl) D0 ?_
                    simp only [Act.put, List.setIfInBounds_toArray, List.set_cons_zero, List.set_cons_succ]
                    refine skip_at 9 (some 69) rfl rfl (by kernel_rfl) (by kernel_rfl) (by kernel_rfl) (fun _ _ _ h => h) (by rfl) D0 ?_
                    simp only [Act.put, List.setIfInBounds_toArray, List.set_cons_zero, List.set_cons_succ]
                    refine skip_at 10 (some 70) rfl rfl (by kernel_rfl) (by kernel_rfl) (by kernel_rfl) (fun _ _ _ h => h) (by rfl) D0 ?_
                    simp only [Act.put, List.setIfInBounds_toArray, List.set_cons_zero, List.set_cons_succ]
                    refine skip_at 11 (some 71) rfl rfl (by kernel_rfl) (by kernel_rfl) (by kernel_rfl) (fun _ _ _ h => h) (by rfl) D0 ?_
                    simp only [Act.put, List.setIfInBounds_toArray, List.set_cons_zero, List.set_cons_succ]
                    refine skip_at 12 (some 72) rfl rfl (by kernel_rfl) (by kernel_rfl) (by kernel_rfl) (fun _ _ _ h => h) (by rfl) D0 ?_
                    simp only [Act.put, List.setIfInBounds_toArray, List.set_cons_zero, List.set_cons_succ]
                    refine skip_at 13 (some 73) rfl rfl (by kernel_rfl) (by kernel_rfl) (by kernel_rfl) (fun _ _ _ h => h) (by rfl) D0 ?_
                    simp only [Act.put, List.setIfInBounds_toArray, List.set_cons_zero, List.set_cons_succ]
                    refine skip_at 14 (some 74) rfl rfl (by kernel_rfl) (by kernel_rfl) (by kernel_rfl) (fun _ _ _ h => h) (by rfl) D0 ?_
                    simp only [Act.put, List.setIfInBounds_toArray, List.set_cons_zero, List.set_cons_succ]
                    refine skip_at 15 (some 75) rfl rfl (by kernel_rfl) (by kernel_rfl) (by kernel_rfl) (fun _ _ _ h => h) (by rfl) D0 ?_
                    simp only [Act.put, List.setIfInBounds_toArray, List.set_cons_zero, List.set_cons_succ]
                    refine skip_at 16 (some 76) rfl rfl (by kernel_rfl) (by kernel_rfl) (by kernel_rfl) (fun _ _ _ h => h) (by rfl) D0 ?_
                    simp only [Act.put, List.setIfInBounds_toArray, List.set_cons_zero, List.set_cons_succ]
                    refine skip_at 17 (some 77) rfl rfl (by kernel_rfl) (by kernel_rfl) (by kernel_rfl) (fun _ _ _ h => h) (by rfl) D0 ?_
                    simp only [Act.put, List.setIfInBounds_toArray, List.set_cons_zero, List.set_cons_succ]
                    refine skip_at 18 (some 78) rfl rfl (by kernel_rfl) (by kernel_rfl) (by kernel_rfl) (fun _ _ _ h => h) (by rfl) D0 ?_
                    simp only [Act.put, List.setIfInBounds_toArray, List.set_cons_zero, List.set_cons_succ]
                    refine skip_at 19 (some 79) rfl rfl (by kernel_rfl) (by kernel_rfl) (by kernel_rfl) (fun _ _ _ h => h) (by rfl) D0 ?_
                    simp only [Act.put, List.setIfInBounds_toArray, List.set_cons_zero, List.set_cons_succ]
                    refine take_at 20 (some 80) (.bool true) rfl rfl (by kernel_rfl) (by kernel_rfl) (by kernel_rfl) (fun _ _ _ h => h) (by rfl) (fun W hSw => by go_simp) D0 ?_
                    simp only [Act.put, List.setIfInBounds_toArray, List.set_cons_zero, List.set_cons_succ]
                    refine wpAnyH_done (by kernel_rfl) ?_ _
                    refine NoPanic.normal ?_
                    have oB := ho.later D0
                    have bB := hbq.trans (D0.mono hbq.size)
                    have e0 := cell_later f0 D0
                    have e1 := cell_later f1 D0
                    generalize wd2 = WQ at *
                    clear ho hbq
                    have ho3 := oB.later (bal (Below.refl _ _) (.cells #[tx p1, tx p2] 44))
                    have hb3 := bal bB (.cells #[tx p1, tx p2] 44)
                    go_wp2_with (at_builtin; go_must (refine wp_app (w0 := w2) rfl _ _ rfl w2.heap.size _ out [(p1, p2)] _ 1 1 rfl rfl ho3 (Ps.one WQ (p1, p2)) hb3 (Nat.le_refl _) ?hN ?_))
                    case hN => omega
                    intro v7 w7 o7 b7
                    go_wp2_with fail
                    go_roundw
                    case rel => exact ⟨q + 1, v7, out ++ [(p1, p2)], by omega, by go_num, rfl, o7, HT, by simp; omega, b7⟩
                    case measure => simp [intOf]; omega
                  · have he1 : (p1 == [95, 95, 110, 97, 109, 101, 95, 95]) = false := beq_eq_false_iff_ne.2 he
                    cases hgm : gm tt p1 with
                    | true =>
                      rw [hgm] at hglob
                      have HT : Hid (out = up (q + 1)) := by show _ = _; rw [HO.out, HNq.out (by rw [HSq.out, hgm, decide_eq_false he]; rfl)]
                      clear HYq HNq HSq HO he hgm
                      go_wp2_with fail
                      have D0 : Below wr.heap.size wr wr.drew := (Below.refl _ _).drew
                      refine wp_region_noPanic ?_
                      refine wp_region_held_drew (S := fun W => Below wr.heap.size wr W) (by kernel_rfl) ?_ (fun _ => ?_)
                      · exact D0
                      generalize wr.drew = wd2 at *
                      refine take_at 0 (some 60) (.slice (some ⟨b2, off2, none⟩) N cap) rfl rfl (by kernel_rfl) (by kernel_rfl) (by kernel_rfl) (fun _ _ _ h => h) (by rfl) (fun W hSw => by go_simp) D0 ?_
                      simp only [Act.put, List.setIfInBounds_toArray, List.set_cons_zero, List.set_cons_succ]
                      refine take_at 1 (some 61) (.int .i64 q) rfl rfl (by kernel_rfl) (by kernel_rfl) (by kernel_rfl) (fun _ _ _ h => h) (by rfl) (fun W hSw => by go_simp) D0 ?_
                      simp only [Act.put, List.setIfInBounds_toArray, List.set_cons_zero, List.set_cons_succ]
                      refine take_at 2 (some 62) (.pointer (some ⟨b2, off2 + q * 2, none⟩)) rfl rfl (by kernel_rfl) (by kernel_rfl) (by kernel_rfl) (fun _ _ _ h => h) (by rfl) (fun W hSw => by go_simp) D0 ?_
                      simp only [Act.put, List.setIfInBounds_toArray, List.set_cons_zero, List.set_cons_succ]
                      refine take_at 3 (some 63) (.pointer (some ⟨b2, off2 + q * 2, none⟩)) rfl rfl (by kernel_rfl) (by kernel_rfl) (by kernel_rfl) (fun _ _ _ h => h) (by rfl) (fun W hSw => by go_simp) D0 ?_
                      simp only [Act.put, List.setIfInBounds_toArray, List.set_cons_zero, List.set_cons_succ]
                      refine take_at 4 (some 64) (tx p1) rfl rfl (by kernel_rfl) (by kernel_rfl) (by kernel_rfl) (fun _ _ _ h => h) (by rfl) (fun W hSw => by have e0 := cell_later f0 hSw; go_simp) D0 ?_
                      simp only [Act.put, List.setIfInBounds_toArray, List.set_cons_zero, List.set_cons_succ]
                      refine take_at 5 (some 65) (.bool false) rfl rfl (by kernel_rfl) (by kernel_rfl) (by kernel_rfl) (fun _ _ _ h => h) (by rfl) (fun W hSw => by go_simp) D0 ?_
                      simp only [Act.put, List.setIfInBounds_toArray, List.set_cons_zero, List.set_cons_succ]
                      refine take_at 6 (some 66) (.bool false) rfl rfl (by kernel_rfl) (by kernel_rfl) (by kernel_rfl) (fun _ _ _ h => h) (by rfl) (fun W hSw => by go_simp) D0 ?_
                      simp only [Act.put, List.setIfInBounds_toArray, List.set_cons_zero, List.set_cons_succ]
                      refine take_at 7 (some 67) (.slice (some ⟨b, off, none⟩) m d) rfl rfl (by kernel_rfl) (by kernel_rfl) (by kernel_rfl) (fun _ _ _ h => h) (by rfl) (fun W hSw => by go_simp) D0 ?_
                      simp only [Act.put, List.setIfInBounds_toArray, List.set_cons_zero, List.set_cons_succ]
                      refine take_at 8 (some 68) (.int .i64 j) rfl rfl (by kernel_rfl) (by kernel_rfl) (by kernel_rfl) (fun _ _ _ h => h) (by rfl) (fun W hSw => by go_simp) D0 ?_
                      simp only [Act.put, List.setIfInBounds_toArray, List.set_cons_zero, List.set_cons_succ]
                      refine take_at 9 (some 69) (.pointer (some ⟨b, off + j * 6, none⟩)) rfl rfl (by kernel_rfl) (by kernel_rfl) (by kernel_rfl) (fun _ _ _ h => h) (by rfl) (fun W hSw => by go_simp) D0 ?_
                      simp only [Act.put, List.setIfInBounds_toArray, List.set_cons_zero, List.set_cons_succ]
                      refine take_at 10 (some 70) (.pointer (some ⟨b, off + j * 6 + 1, none⟩)) rfl rfl (by kernel_rfl) (by kernel_rfl) (by kernel_rfl) (fun _ _ _ h => h) (by rfl) (fun W hSw => by go_simp) D0 ?_
                      simp only [Act.put, List.setIfInBounds_toArray, List.set_cons_zero, List.set_cons_succ]
                      refine take_at 11 (some 71) (.pointer (some ⟨b, off + j * 6 + 3, none⟩)) rfl rfl (by kernel_rfl) (by kernel_rfl) (by kernel_rfl) (fun _ _ _ h => h) (by rfl) (fun W hSw => by go_simp) D0 ?_
                      simp only [Act.put, List.setIfInBounds_toArray, List.set_cons_zero, List.set_cons_succ]
                      refine take_at 12 (some 72) (tx tt) rfl rfl (by kernel_rfl) (by kernel_rfl) (by kernel_rfl) (fun _ _ _ h => h) (by rfl) (fun W hSw => by have e0 := cell_later f3 hSw; go_simp) D0 ?_
                      simp only [Act.put, List.setIfInBounds_toArray, List.set_cons_zero, List.set_cons_succ]
                      refine take_at 13 (some 73) (.slice (some ⟨b2, off2, none⟩) N cap) rfl rfl (by kernel_rfl) (by kernel_rfl) (by kernel_rfl) (fun _ _ _ h => h) (by rfl) (fun W hSw => by go_simp) D0 ?_
                      simp only [Act.put, List.setIfInBounds_toArray, List.set_cons_zero, List.set_cons_succ]
                      refine take_at 14 (some 74) (.int .i64 q) rfl rfl (by kernel_rfl) (by kernel_rfl) (by kernel_rfl) (fun _ _ _ h => h) (by rfl) (fun W hSw => by go_simp) D0 ?_
                      simp only [Act.put, List.setIfInBounds_toArray, List.set_cons_zero, List.set_cons_succ]
                      refine take_at 15 (some 75) (.pointer (some ⟨b2, off2 + q * 2, none⟩)) rfl rfl (by kernel_rfl) (by kernel_rfl) (by kernel_rfl) (fun _ _ _ h => h) (by rfl) (fun W hSw => by go_simp) D0 ?_
                      simp only [Act.put, List.setIfInBounds_toArray, List.set_cons_zero, List.set_cons_succ]
                      refine take_at 16 (some 76) (.pointer (some ⟨b2, off2 + q * 2, none⟩)) rfl rfl (by kernel_rfl) (by kernel_rfl) (by kernel_rfl) (fun _ _ _ h => h) (by rfl) (fun W hSw => by go_simp) D0 ?_
                      simp only [Act.put, List.setIfInBounds_toArray, List.set_cons_zero, List.set_cons_succ]
                      refine take_at 17 (some 77) (tx p1) rfl rfl (by kernel_rfl) (by kernel_rfl) (by kernel_rfl) (fun _ _ _ h => h) (by rfl) (fun W hSw => by have e0 := cell_later f0 hSw; go_simp) D0 ?_
                      simp only [Act.put, List.setIfInBounds_toArray, List.set_cons_zero, List.set_cons_succ]
                      refine wpAnyH_ready (rs := [18]) (by kernel_rfl) (by simp) ?_
                      refine AllReadyH.cons rfl (fun K hK => ?_) AllReadyH.nil
                      go_simp
                      refine (hglob _).mono ?_
                      rintro e wc1 ⟨rfl, hc1⟩
                      have D1 := Below.chain D0 hc1
                      refine hK.out _ _ ?_ (fun _ => ?_)
                      · exact D1
                      clear hK K
                      refine take_at 19 (some 79) (.bool false) rfl rfl (by kernel_rfl) (by kernel_rfl) (by kernel_rfl) (fun _ _ _ h => h) (by rfl) (fun W hSw => by go_simp) D1 ?_
                      simp only [Act.put, List.setIfInBounds_toArray, List.set_cons_zero, List.set_cons_succ]
                      refine take_at 20 (some 80) (.bool false) rfl rfl (by kernel_rfl) (by kernel_rfl) (by kernel_rfl) (fun _ _ _ h => h) (by rfl) (fun W hSw => by go_simp) D1 ?_
                      simp only [Act.put, List.setIfInBounds_toArray, List.set_cons_zero, List.set_cons_succ]
                      refine wpAnyH_done (by kernel_rfl) ?_ _
                      refine NoPanic.normal ?_
                      have oB := ho.later D1
                      have bB := hbq.trans (D1.mono hbq.size)
                      generalize wc1 = WQ at *
                      clear ho hbq
                      go_wp2_with fail
                      go_roundw
                      case rel => exact ⟨q + 1, _, out, by omega, by go_num, rfl, oB, HT, by omega, bB⟩
                      case measure => simp [intOf]; omega
                    | false =>
                      rw [hgm] at hglob
                      have HT : Hid (out ++ [(p1, p2)] = up (q + 1)) := by show _ = _; rw [HO.out, HYq.out (by rw [HSq.out, hgm]; simp)]
                      clear HYq HNq HSq HO he hgm
                      go_wp2_with fail
                      have D0 : Below wr.heap.size wr wr.drew := (Below.refl _ _).drew
                      refine wp_region_noPanic ?_
                      refine wp_region_held_drew (S := fun W => Below wr.heap.size wr W) (by kernel_rfl) ?_ (fun _ => ?_)
                      · exact D0
                      generalize wr.drew = wd2 at *
                      refine take_at 0 (some 60) (.slice (some ⟨b2, off2, none⟩) N cap) rfl rfl (by kernel_rfl) (by kernel_rfl) (by kernel_rfl) (fun _ _ _ h => h) (by rfl) (fun W hSw => by go_simp) D0 ?_
                      simp only [Act.put, List.setIfInBounds_toArray, List.set_cons_zero, List.set_cons_succ]
                      refine take_at 1 (some 61) (.int .i64 q) rfl rfl (by kernel_rfl) (by kernel_rfl) (by kernel_rfl) (fun _ _ _ h => h) (by rfl) (fun W hSw => by go_simp) D0 ?_
                      simp only [Act.put, List.setIfInBounds_toArray, List.set_cons_zero, List.set_cons_succ]
                      refine take_at 2 (some 62) (.pointer (some ⟨b2, off2 + q * 2, none⟩)) rfl rfl (by kernel_rfl) (by kernel_rfl) (by kernel_rfl) (fun _ _ _ h => h) (by rfl) (fun W hSw => by go_simp) D0 ?_
                      simp only [Act.put, List.setIfInBounds_toArray, List.set_cons_zero, List.set_cons_succ]
                      refine take_at 3 (some 63) (.pointer (some ⟨b2, off2 + q * 2, none⟩)) rfl rfl (by kernel_rfl) (by kernel_rfl) (by kernel_rfl) (fun _ _ _ h => h) (by rfl) (fun W hSw => by go_simp) D0 ?_
                      simp only [Act.put, List.setIfInBounds_toArray, List.set_cons_zero, List.set_cons_succ]
                      refine take_at 4 (some 64) (tx p1) rfl rfl (by kernel_rfl) (by kernel_rfl) (by kernel_rfl) (fun _ _ _ h => h) (by rfl) (fun W hSw => by have e0 := cell_later f0 hSw; go_simp) D0 ?_
                      simp only [Act.put, List.setIfInBounds_toArray, List.set_cons_zero, List.set_cons_succ]
                      refine take_at 5 (some 65) (.bool false) rfl rfl (by kernel_rfl) (by kernel_rfl) (by kernel_rfl) (fun _ _ _ h => h) (by rfl) (fun W hSw => by go_simp) D0 ?_
                      simp only [Act.put, List.setIfInBounds_toArray, List.set_cons_zero, List.set_cons_succ]
                      refine take_at 6 (some 66) (.bool false) rfl rfl (by kernel_rfl) (by kernel_rfl) (by kernel_rfl) (fun _ _ _ h => h) (by rfl) (fun W hSw => by go_simp) D0 ?_
                      simp only [Act.put, List.setIfInBounds_toArray, List.set_cons_zero, List.set_cons_succ]
                      refine take_at 7 (some 67) (.slice (some ⟨b, off, none⟩) m d) rfl rfl (by kernel_rfl) (by kernel_rfl) (by kernel_rfl) (fun _ _ _ h => h) (by rfl) (fun W hSw => by go_simp) D0 ?_
                      simp only [Act.put, List.setIfInBounds_toArray, List.set_cons_zero, List.set_cons_succ]
                      refine take_at 8 (some 68) (.int .i64 j) rfl rfl (by kernel_rfl) (by kernel_rfl) (by kernel_rfl) (fun _ _ _ h => h) (by rfl) (fun W hSw => by go_simp) D0 ?_
                      simp only [Act.put, List.setIfInBounds_toArray, List.set_cons_zero, List.set_cons_succ]
                      refine take_at 9 (some 69) (.pointer (some ⟨b, off + j * 6, none⟩)) rfl rfl (by kernel_rfl) (by kernel_rfl) (by kernel_rfl) (fun _ _ _ h => h) (by rfl) (fun W hSw => by go_simp) D0 ?_
                      simp only [Act.put, List.setIfInBounds_toArray, List.set_cons_zero, List.set_cons_succ]
                      refine take_at 10 (some 70) (.pointer (some ⟨b, off + j * 6 + 1, none⟩)) rfl rfl (by kernel_rfl) (by kernel_rfl) (by kernel_rfl) (fun _ _ _ h => h) (by rfl) (fun W hSw => by go_simp) D0 ?_
                      simp only [Act.put, List.setIfInBounds_toArray, List.set_cons_zero, List.set_cons_succ]
                      refine take_at 11 (some 71) (.pointer (some ⟨b, off + j * 6 + 3, none⟩)) rfl rfl (by kernel_rfl) (by kernel_rfl) (by kernel_rfl) (fun _ _ _ h => h) (by rfl) (fun W hSw => by go_simp) D0 ?_
                      simp only [Act.put, List.setIfInBounds_toArray, List.set_cons_zero, List.set_cons_succ]
                      refine take_at 12 (some 72) (tx tt) rfl rfl (by kernel_rfl) (by kernel_rfl) (by kernel_rfl) (fun _ _ _ h => h) (by rfl) (fun W hSw => by have e0 := cell_later f3 hSw; go_simp) D0 ?_
                      simp only [Act.put, List.setIfInBounds_toArray, List.set_cons_zero, List.set_cons_succ]
                      refine take_at 13 (some 73) (.slice (some ⟨b2, off2, none⟩) N cap) rfl rfl (by kernel_rfl) (by kernel_rfl) (by kernel_rfl) (fun _ _ _ h => h) (by rfl) (fun W hSw => by go_simp) D0 ?_
                      simp only [Act.put, List.setIfInBounds_toArray, List.set_cons_zero, List.set_cons_succ]
                      refine take_at 14 (some 74) (.int .i64 q) rfl rfl (by kernel_rfl) (by kernel_rfl) (by kernel_rfl) (fun _ _ _ h => h) (by rfl) (fun W hSw => by go_simp) D0 ?_
                      simp only [Act.put, List.setIfInBounds_toArray, List.set_cons_zero, List.set_cons_succ]
                      refine take_at 15 (some 75) (.pointer (some ⟨b2, off2 + q * 2, none⟩)) rfl rfl (by kernel_rfl) (by kernel_rfl) (by kernel_rfl) (fun _ _ _ h => h) (by rfl) (fun W hSw => by go_simp) D0 ?_
                      simp only [Act.put, List.setIfInBounds_toArray, List.set_cons_zero, List.set_cons_succ]
                      refine take_at 16 (some 76) (.pointer (some ⟨b2, off2 + q * 2, none⟩)) rfl rfl (by kernel_rfl) (by kernel_rfl) (by kernel_rfl) (fun _ _ _ h => h) (by rfl) (fun W hSw => by go_simp) D0 ?_
                      simp only [Act.put, List.setIfInBounds_toArray, List.set_cons_zero, List.set_cons_succ]
                      refine take_at 17 (some 77) (tx p1) rfl rfl (by kernel_rfl) (by kernel_rfl) (by kernel_rfl) (fun _ _ _ h => h) (by rfl) (fun W hSw => by have e0 := cell_later f0 hSw; go_simp) D0 ?_
                      simp only [Act.put, List.setIfInBounds_toArray, List.set_cons_zero, List.set_cons_succ]
                      refine wpAnyH_ready (rs := [18]) (by kernel_rfl) (by simp) ?_
                      refine AllReadyH.cons rfl (fun K hK => ?_) AllReadyH.nil
                      go_simp
                      refine (hglob _).mono ?_
                      rintro e wc1 ⟨rfl, hc1⟩
                      have D1 := Below.chain D0 hc1
                      refine hK.out _ _ ?_ (fun _ => ?_)
                      · exact D1
                      clear hK K
                      refine take_at 19 (some 79) (.bool true) rfl rfl (by kernel_rfl) (by kernel_rfl) (by kernel_rfl) (fun _ _ _ h => h) (by rfl) (fun W hSw => by go_simp) D1 ?_
                      simp only [Act.put, List.setIfInBounds_toArray, List.set_cons_zero, List.set_cons_succ]
                      refine take_at 20 (some 80) (.bool true) rfl rfl (by kernel_rfl) (by kernel_rfl) (by kernel_rfl) (fun _ _ _ h => h) (by rfl) (fun W hSw => by go_simp) D1 ?_
                      simp only [Act.put, List.setIfInBounds_toArray, List.set_cons_zero, List.set_cons_succ]
                      refine wpAnyH_done (by kernel_rfl) ?_ _
                      refine NoPanic.normal ?_
                      have oB := ho.later D1
                      have bB := hbq.trans (D1.mono hbq.size)
                      have e0 := cell_later f0 D1
                      have e1 := cell_later f1 D1
                      generalize wc1 = WQ at *
                      clear ho hbq
                      have ho3 := oB.later (bal (Below.refl _ _) (.cells #[tx p1, tx p2] 44))
                      have hb3 := bal bB (.cells #[tx p1, tx p2] 44)
                      go_wp2_with (at_builtin; go_must (refine wp_app (w0 := w2) rfl _ _ rfl w2.heap.size _ out [(p1, p2)] _ 1 1 rfl rfl ho3 (Ps.one WQ (p1, p2)) hb3 (Nat.le_refl _) ?hN ?_))
                      case hN => omega
                      intro v7 w7 o7 b7
                      go_wp2_with fail
                      go_roundw
                      case rel => exact ⟨q + 1, v7, out ++ [(p1, p2)], by omega, by go_num, rfl, o7, HT, by simp; omega, b7⟩
                      case measure => simp [intOf]; omega
                · have HE : Hid (out = la.filter sy) := by show _ = _; rw [HO.out]; exact HFA.out q (by rw [HLN.out]; omega)
                  obtain ⟨ao3, cap3, rfl, hps3⟩ := ho.fitN
                  rw [HE.out] at hps3
                  have B3 := Below.chain B2 hbq
                  have hp4 : ∃ M, out.length = M ∧ Ps wr ao3 M (la.filter sy) := ⟨out.length, rfl, by rw [HE.out]; exact hps3⟩
                  obtain ⟨M, hM, hps4⟩ := hp4
                  rw [hM]
                  clear HO HFY HFN HSY hglobq HFA HF0 hps3 ho HE hol hM
                  go_wp2_with fail
                  go_roundw
                  case rel => exact ⟨j + 1, ao3, M, cap3, by omega, by go_num, rfl, by rw [HA.out.2]; exact hps4, HA.out.1, B3⟩
                  case measure => simp [intOf]; omega
          · have HA : Hid (apAll l rs = (upA l rs j, true, 0)) := up_all (by rw [HL.out]; omega) HK.out
            have HF : Hid (fApply l rs = (upA l rs j, true, 0)) := by show _ = _; rw [HR.out, HA.out]
            clear HA HR HK
            go_wp2_with fail
            go_ret3
            exact ⟨_, _, _, by rw [HF.out]; rfl, by rw [HF.out]; exact hps, hb⟩
end Go.Proofs.YtideieolgjhbiaaGreatDoor
