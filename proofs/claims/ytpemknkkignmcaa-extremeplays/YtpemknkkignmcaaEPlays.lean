/- ExtremePlays: the walk. -/
import Derived.Test.YtpemknkkignmcaaEPlQ
import Derived.Deep.CutRange
import Derived.Deep.CutBlock
import Derived.BigQuiet
namespace Go.Proofs.Ytpemknkkignmcaa
open Go.RowKit

theorem nadd (i : Nat) (h : i < 130) : wrap64 ((i : Int) + 1) = (i : Int) + 1 := wf64 (by omega) (by omega)
theorem meas (i n : Nat) (h : i < n) : n - (intOf (.int .i64 ((i : Int) + 1))).toNat < n - (intOf (.int .i64 (i : Int))).toNat := by simp [intOf]; omega
set_option maxRecDepth 20000 in
set_option maxHeartbeats 16000000 in
theorem plays_any (K : Int) (ao : Option Addr) (n cap : Nat) (l : List Stp) (w : World) (_hK : -9223372036854775808 ≤ K ∧ K ≤ 9223372036854775807) (_hm : n ≤ maxLen) (hs : Ss w ao n l) (hl : FitS l) :
    Calls Try.prog 3 #[.int .i64 K, .slice ao n cap] w fun e w' => e = .returned (.bool true) ∧ Below w.heap.size w w' := by
  by_cases hn : n ≤ 120
  · have hdn : decide ((120 : Int) < (n : Int)) = false := decide_eq_false (by omega)
    obtain ⟨i0, hi, hz0, hz1, hz2⟩ := infoS_parts
    obtain ⟨k, hk⟩ : ∃ k : Int, k = clamp K := ⟨_, rfl⟩
    have k1 : 1 ≤ k ∧ k ≤ 100 := by rw [hk]; exact clamp_range K
    obtain ⟨hla, hca⟩ := hs
    have HLR : Hid (∀ q, q < n → R64 (l.getD q st0).2.1 ∧ R64 (l.getD q st0).2.2.2) := fun q hq => hl _ (getD_memT (by rw [hla]; exact hq))
    have HCa : Hid (0 < n → ∃ b off, ao = some ⟨b, off, none⟩ ∧ ∀ j, j < n → ∀ W, Below w.heap.size w W → W.cell? ⟨b, off + j * 4, none⟩ = some (.bool (l.getD j st0).1) ∧ W.cell? ⟨b, off + j * 4 + 1, none⟩ = some (.int .i64 (l.getD j st0).2.1) ∧ W.cell? ⟨b, off + j * 4 + 2, none⟩ = some (.bool (l.getD j st0).2.2.1) ∧ W.cell? ⟨b, off + j * 4 + 3, none⟩ = some (.int .i64 (l.getD j st0).2.2.2)) := fun hp => by
      obtain ⟨b, off, e, hc⟩ := hca hp
      exact ⟨b, off, e, fun j hj W hW => by
        obtain ⟨c0, c1, c2, c3⟩ := hc j hj
        exact ⟨(hW.cell (World.block_lt_of_cell? _ _ c0)).trans c0, (hW.cell (World.block_lt_of_cell? _ _ c1)).trans c1, (hW.cell (World.block_lt_of_cell? _ _ c2)).trans c2, (hW.cell (World.block_lt_of_cell? _ _ c3)).trans c3⟩⟩
    clear hla hca hl
    go_enter Try.func3, Try.ntmps3
    go_wp2_with fail
    refine (known_any _).mono ?_
    rintro e w1 ⟨rfl, hb1⟩
    go_wp2_with fail
    refine (new_st K true _).mono ?_
    rw [← hk]
    rintro e w2 ⟨rfl, hs2, hb2⟩
    go_wp2_with fail
    refine (new_st K false _).mono ?_
    rw [← hk]
    rintro e w3 ⟨rfl, ht3, hb3⟩
    have hs3 := hs2.later hb3
    have hB1 : w.heap.size ≤ w1.heap.size := hb1.size
    have hB2 : w.heap.size ≤ w2.heap.size := (Below.chain hb1 hb2).size
    have HB12 : Hid (w1.heap.size ≠ w2.heap.size) := by show _ ≠ _; have := hs2.lt; omega
    have hb4 := Below.chain (Below.chain hb1 hb2) hb3
    clear hs2
    generalize w1.heap.size = b1 at *
    generalize w2.heap.size = b2 at *
    have HCl : Hid (max 1 (min K 100) = k) := by show _ = _; rw [hk]; exact clamp_eq K
    clear hb1 hb2 hb3 hk
    go_wp2_with fail
    rw [HCl.out]
    clear HCl
    go_loopw [11, 8, 9, 10] (fun t a c m wr => ∃ (i : Nat) (nw la : Int) (ao2 : Option Addr) (n2 c2 : Nat) (L : List Smp), i ≤ n ∧ t = .int .i64 i ∧ a = .int .i64 nw ∧ c = .int .i64 la ∧ m = .slice ao2 n2 c2 ∧ St wr b1 L k nw true ∧ St wr b2 L k nw false ∧ Ml wr b1 b2 ao2 n2 c2 L ∧ Pv la L k nw ∧ Below w.heap.size w wr) (fun t _ _ _ _ => n - (intOf t).toNat)
    case atStart => exact ⟨0, 0, -1, none, 0, 0, [], by omega, rfl, rfl, rfl, rfl, hs3, ht3, ⟨Ms.nil _ _, Nat.le_refl _, fun _ => ⟨rfl, rfl⟩, (fun a e => by cases e)⟩, ⟨fun h => absurd rfl h, fun _ => Or.inr (by decide), (fun s hs => by cases hs), by decide⟩, hb4⟩
    case round =>
      clear hs3 ht3 hb4
      obtain ⟨i, nw, la, ao2, n2, c2, L, hi2, rfl, rfl, rfl, rfl, s1, s2, ml, pv, hb⟩ := hrel
      by_cases hlt : i < n
      · have hd : decide ((i : Int) < (n : Int)) = true := decide_eq_true (by omega)
        obtain ⟨bb, oo, rfl, hcell⟩ := HCa.out (by omega)
        have HU : Hid _ := hcell i hlt
        have HBlk : Hid (bb < w.heap.size) := World.block_lt_of_cell? w _ (hcell i hlt w (Below.refl _ _)).1
        obtain ⟨u0w, u1w, u2w, u3w⟩ := hcell i hlt _ hb
        obtain ⟨hrT, hrV⟩ := HLR.out i hlt
        clear hcell
        generalize hlq : l.getD i st0 = stp at *
        clear hlq
        obtain ⟨tm, T, vo, vn⟩ := stp
        dsimp only at *
        go_wp2_with fail
        have u0 : wr.drew.cell? ⟨bb, oo + i * 4, none⟩ = some (Value.bool tm) := u0w
        have u1 : wr.drew.cell? ⟨bb, oo + i * 4 + 1, none⟩ = some (Value.int .i64 T) := u1w
        have u2 : wr.drew.cell? ⟨bb, oo + i * 4 + 2, none⟩ = some (Value.bool vo) := u2w
        have u3 : wr.drew.cell? ⟨bb, oo + i * 4 + 3, none⟩ = some (Value.int .i64 vn) := u3w
        have hbd : Below w.heap.size w wr.drew := hb.trans (Below.refl _ _).drew
        have hba := bal (Below.refl _ wr.drew) (.cells #[.int .i64 0, .bool false, .int .i64 0] 32)
        have hbs : Below wr.heap.size wr ((wr.alloc (.cells #[.int .i64 T, .bool vo, .int .i64 vn] 32)).drew) := (bal (Below.refl _ wr) _).drew
        have xs : BoxS ((wr.alloc (.cells #[.int .i64 T, .bool vo, .int .i64 vn] 32)).drew) wr.heap.size (T, vo, vn) := (BoxS.new wr (T, vo, vn)).later (Below.refl _ _).drew
        have hS0 : (fun W : World => W.cell? ⟨bb, oo + i * 4 + 1, none⟩ = some (Value.int .i64 T) ∧ W.cell? ⟨bb, oo + i * 4 + 2, none⟩ = some (Value.bool vo) ∧ W.cell? ⟨bb, oo + i * 4 + 3, none⟩ = some (Value.int .i64 vn)) _ := ⟨u1, u2, u3⟩
        refine wp_region_noPanic ?_
        refine wp_region_held_drew (S := fun W : World => W.cell? ⟨bb, oo + i * 4 + 1, none⟩ = some (Value.int .i64 T) ∧ W.cell? ⟨bb, oo + i * 4 + 2, none⟩ = some (Value.bool vo) ∧ W.cell? ⟨bb, oo + i * 4 + 3, none⟩ = some (Value.int .i64 vn)) (by kernel_rfl) hS0 (fun _ => ?_)
        refine take_at 0 (some 40) (.slice (some ⟨bb, oo, none⟩) n cap) rfl rfl (by kernel_rfl) (by kernel_rfl) (by kernel_rfl) (fun _ _ _ h => h) (by rfl) (fun W hSw => by obtain ⟨q0, q1, q2⟩ := hSw; go_simp) hS0 ?_
        simp only [Act.put, List.setIfInBounds_toArray, List.set_cons_zero, List.set_cons_succ]
        refine take_at 1 (some 41) (.int .i64 i) rfl rfl (by kernel_rfl) (by kernel_rfl) (by kernel_rfl) (fun _ _ _ h => h) (by rfl) (fun W hSw => by obtain ⟨q0, q1, q2⟩ := hSw; go_simp) hS0 ?_
        simp only [Act.put, List.setIfInBounds_toArray, List.set_cons_zero, List.set_cons_succ]
        refine take_at 2 (some 42) (.pointer (some ⟨bb, oo + i * 4, none⟩)) rfl rfl (by kernel_rfl) (by kernel_rfl) (by kernel_rfl) (fun _ _ _ h => h) (by rfl) (fun W hSw => by obtain ⟨q0, q1, q2⟩ := hSw; go_simp; try (intro hh; exfalso; omega)) hS0 ?_
        simp only [Act.put, List.setIfInBounds_toArray, List.set_cons_zero, List.set_cons_succ]
        refine take_at 3 (some 43) (.pointer (some ⟨bb, oo + i * 4 + 1, none⟩)) rfl rfl (by kernel_rfl) (by kernel_rfl) (by kernel_rfl) (fun _ _ _ h => h) (by rfl) (fun W hSw => by obtain ⟨q0, q1, q2⟩ := hSw; go_simp) hS0 ?_
        simp only [Act.put, List.setIfInBounds_toArray, List.set_cons_zero, List.set_cons_succ]
        refine take_at 4 (some 44) (.int .i64 T) rfl rfl (by kernel_rfl) (by kernel_rfl) (by kernel_rfl) (fun _ _ _ h => h) (by rfl) (fun W hSw => by obtain ⟨q0, q1, q2⟩ := hSw; go_simp) hS0 ?_
        simp only [Act.put, List.setIfInBounds_toArray, List.set_cons_zero, List.set_cons_succ]
        refine take_at 5 (some 45) (.slice (some ⟨bb, oo, none⟩) n cap) rfl rfl (by kernel_rfl) (by kernel_rfl) (by kernel_rfl) (fun _ _ _ h => h) (by rfl) (fun W hSw => by obtain ⟨q0, q1, q2⟩ := hSw; go_simp) hS0 ?_
        simp only [Act.put, List.setIfInBounds_toArray, List.set_cons_zero, List.set_cons_succ]
        refine take_at 6 (some 46) (.int .i64 i) rfl rfl (by kernel_rfl) (by kernel_rfl) (by kernel_rfl) (fun _ _ _ h => h) (by rfl) (fun W hSw => by obtain ⟨q0, q1, q2⟩ := hSw; go_simp) hS0 ?_
        simp only [Act.put, List.setIfInBounds_toArray, List.set_cons_zero, List.set_cons_succ]
        refine take_at 7 (some 47) (.pointer (some ⟨bb, oo + i * 4, none⟩)) rfl rfl (by kernel_rfl) (by kernel_rfl) (by kernel_rfl) (fun _ _ _ h => h) (by rfl) (fun W hSw => by obtain ⟨q0, q1, q2⟩ := hSw; go_simp; try (intro hh; exfalso; omega)) hS0 ?_
        simp only [Act.put, List.setIfInBounds_toArray, List.set_cons_zero, List.set_cons_succ]
        refine take_at 8 (some 48) (.pointer (some ⟨bb, oo + i * 4 + 2, none⟩)) rfl rfl (by kernel_rfl) (by kernel_rfl) (by kernel_rfl) (fun _ _ _ h => h) (by rfl) (fun W hSw => by obtain ⟨q0, q1, q2⟩ := hSw; go_simp) hS0 ?_
        simp only [Act.put, List.setIfInBounds_toArray, List.set_cons_zero, List.set_cons_succ]
        refine take_at 9 (some 49) (.agg #[.bool vo, .int .i64 vn]) rfl rfl (by kernel_rfl) (by kernel_rfl) (by kernel_rfl) (fun _ _ _ h => h) (by rfl) (fun W hSw => by obtain ⟨q0, q1, q2⟩ := hSw; go_simp) hS0 ?_
        simp only [Act.put, List.setIfInBounds_toArray, List.set_cons_zero, List.set_cons_succ]
        refine take_at 10 (some 50) (.agg #[.int .i64 T, .bool vo, .int .i64 vn]) rfl rfl (by kernel_rfl) (by kernel_rfl) (by kernel_rfl) (fun _ _ _ h => h) (by rfl) (fun W hSw => by obtain ⟨q0, q1, q2⟩ := hSw; go_simp) hS0 ?_
        simp only [Act.put, List.setIfInBounds_toArray, List.set_cons_zero, List.set_cons_succ]
        refine wpAnyH_ready (rs := [11]) (by kernel_rfl) (by simp) ?_
        refine AllReadyH.cons rfl (fun K hK => ?_) AllReadyH.nil
        go_simp
        have hSa := (⟨(hba.cell (World.block_lt_of_cell? _ _ u1)).trans u1, (hba.cell (World.block_lt_of_cell? _ _ u2)).trans u2, (hba.cell (World.block_lt_of_cell? _ _ u3)).trans u3⟩ : (fun W : World => W.cell? ⟨bb, oo + i * 4 + 1, none⟩ = some (Value.int .i64 T) ∧ W.cell? ⟨bb, oo + i * 4 + 2, none⟩ = some (Value.bool vo) ∧ W.cell? ⟨bb, oo + i * 4 + 3, none⟩ = some (Value.int .i64 vn)) _)
        refine hK.out _ _ hSa (fun _ => ?_)
        clear hK K
        refine wpAnyH_ready (rs := [12]) (by kernel_rfl) (by simp) ?_
        refine AllReadyH.cons rfl (fun K hK => ?_) AllReadyH.nil
        go_simp
        have hSb := (⟨(hbs.cell (World.block_lt_of_cell? _ _ u1w)).trans u1w, (hbs.cell (World.block_lt_of_cell? _ _ u2w)).trans u2w, (hbs.cell (World.block_lt_of_cell? _ _ u3w)).trans u3w⟩ : (fun W : World => W.cell? ⟨bb, oo + i * 4 + 1, none⟩ = some (Value.int .i64 T) ∧ W.cell? ⟨bb, oo + i * 4 + 2, none⟩ = some (Value.bool vo) ∧ W.cell? ⟨bb, oo + i * 4 + 3, none⟩ = some (Value.int .i64 vn)) _)
        refine hK.out _ _ hSb (fun _ => ?_)
        clear hK K
        refine wpAnyH_done (by kernel_rfl) ?_ _
        refine NoPanic.normal ?_
        have u0' := (hbs.cell (World.block_lt_of_cell? _ _ u0w)).trans u0w
        have s1' := s1.later hbs
        have s2' := s2.later hbs
        have ml' := ml.later hbs
        have hb' := Below.chain hb hbs
        have hD : w.heap.size ≤ wr.heap.size ∧ b1 < wr.heap.size ∧ b2 < wr.heap.size := ⟨hb.size, s1.lt, s2.lt⟩
        have HBB : Hid (bb < w.heap.size) := HBlk.out
        clear hS0 hSa hSb u0 u1 u2 u3 u0w u1w u2w u3w hba hbs s1 s2 ml hb hbd
        generalize ((wr.alloc (.cells #[.int .i64 T, .bool vo, .int .i64 vn] 32)).drew) = wz at *
        generalize wr.heap.size = D at *
        go_upto_if 55 with fail
        go_cut [8, 9, 10, 13] from 34 to 205 (fun a c m z wx => ∃ (nw' la' : Int) (ao3 : Option Addr) (n3 c3 : Nat) (L' : List Smp), a = .int .i64 nw' ∧ c = .int .i64 la' ∧ m = .slice ao3 n3 c3 ∧ St wx b1 L' k nw' true ∧ St wx b2 L' k nw' false ∧ Ml wx b1 b2 ao3 n3 c3 L' ∧ Pv la' L' k nw' ∧ Below w.heap.size w wx)
        case first =>
          cases tm with
          | true =>
            have a1 := adv_st b1 _ _ _ T true wz s1'
            have a2 := fun W hW => adv_st b2 _ _ _ T false W (hW : St W b2 L k nw false)
            have HO : Hid (onw nw T = max nw (min T 1000000)) := rfl
            have hrg := onw_range T s1'.f.n1
            have hL100 : L.length ≤ 100 := s1'.f.le
            have pv2 := pv.adv s1'.f T
            obtain ⟨nw', hnw'⟩ : ∃ x, x = onw nw T := ⟨_, rfl⟩
            rw [← hnw'] at a1 a2 hrg pv2
            have HO2 : Hid (max nw (min T 1000000) = nw') := by show _ = _; rw [hnw']; rfl
            have hK2 : wrap64 (nw' - k) = nw' - k := wf64 (by omega) (by omega)
            have HK2 : Hid _ := hK2
            clear hnw' HO hK2
            go_wp2_with fail
            refine a1.mono ?_
            rintro e w4 ⟨rfl, s14, hg⟩
            have s24 := s2'.kept hg (by simp; have := HB12.out; omega)
            have ml4 := ml'.kept hg (Or.inr (Or.inl rfl))
            have hb4 := grown_above hb' hg hb'.size hB1
            have u04 : w4.cell? ⟨bb, oo + i * 4, none⟩ = some (Value.bool true) := grown_cell hg u0' (by simp; have := HBB.out; omega)
            have u14 : w4.cell? ⟨bb, oo + i * 4 + 1, none⟩ = some (Value.int .i64 T) := (HU.out w4 hb4).2.1
            clear a1 s1' s2' ml' hb' hg u0'
            go_wp2_with fail
            refine (a2 _ s24).mono ?_
            rintro e w5 ⟨rfl, s25, hg⟩
            have s15 := s14.kept hg (by simp; have := HB12.out; omega)
            have ml5 := ml4.kept hg (Or.inr (Or.inr rfl))
            have hb5 := grown_above hb4 hg hb4.size hB2
            have u15 : w5.cell? ⟨bb, oo + i * 4 + 1, none⟩ = some (Value.int .i64 T) := (HU.out w5 hb5).2.1
            clear a2 s14 s24 ml4 hb4 hg u04 u14 hrg
            go_wp2_with fail
            rw [HO2.out]
            go_loopw [10] (fun m wy => ∃ (ao4 : Option Addr) (n4 c4 : Nat) (r : List Smp), m = .slice ao4 n4 c4 ∧ Ml wy b1 b2 ao4 n4 c4 r ∧ Hid (fg (nw' - k) r = fg (nw' - k) L ∧ r.length ≤ 100) ∧ wy = w5) (fun m _ => match m with
              | .slice _ q _ => q
              | _ => 0)
            case atStart => exact ⟨ao2, n2, c2, L, rfl, ml5, ⟨rfl, hL100⟩, rfl⟩
            case round =>
              obtain ⟨ao4, n4, c4, r, rfl, ml6, HG, rfl⟩ := hrel
              cases r with
              | nil =>
                obtain rfl : n4 = 0 := ml6.s.1.symm
                go_wp2_with fail
                go_meet
                case rel => exact ⟨nw', la, ao4, 0, c4, _, rfl, rfl, rfl, s15, s25, by rw [← HG.out.1]; exact ml6, pv2, hb5⟩
              | cons s r =>
                have hn1 : r.length + 1 = n4 := ml6.s.1
                obtain ⟨vb, off, rfl, hcc⟩ := ml6.s.2 (by omega)
                obtain ⟨x0, _, _⟩ := hcc 0 (by omega)
                rw [Nat.zero_mul, Nat.add_zero] at x0
                have hle := ml6.le
                have d0 : decide ((0 : Int) < (n4 : Int)) = true := decide_eq_true (by omega)
                have hnl : n4 ≤ 100 := by have := HG.out.2; rw [List.length_cons] at this; omega
                clear hcc
                have eK := HK2.out
                by_cases ht : s.1 ≤ nw' - k
                · have d1 : decide (s.1 ≤ nw' - k) = true := decide_eq_true ht
                  have HN : Hid (fg (nw' - k) r = fg (nw' - k) L ∧ r.length ≤ 100) := ⟨by rw [← HG.out.1]; show _ = if s.1 ≤ nw' - k then fg (nw' - k) r else s :: r; rw [if_pos ht], by omega⟩
                  have hn0 : 0 < n4 := by omega
                  clear ht HG hn1
                  go_wp2_with fail
                  have hA : (if c4 = 1 then some (⟨vb, off, none⟩ : Addr) else some ⟨vb, off + 3, none⟩) = some ⟨vb, off + 3, none⟩ ∨ (n4 = 1 ∧ (if c4 = 1 then some (⟨vb, off, none⟩ : Addr) else some ⟨vb, off + 3, none⟩) = some ⟨vb, off, none⟩) := by
                    by_cases hc1 : c4 = 1
                    · rw [if_pos hc1]
                      exact Or.inr ⟨by omega, rfl⟩
                    · rw [if_neg hc1]
                      exact Or.inl rfl
                  go_roundw
                  clear eK
                  case rel => exact ⟨_, n4 - 1, c4 - 1, r, rfl, ml6.tail _ hA, HN, trivial⟩
                  case measure => show n4 - 1 < n4; omega
                · have d1 : decide (s.1 ≤ nw' - k) = false := decide_eq_false ht
                  have HN : Hid (s :: r = fg (nw' - k) L) := by rw [← HG.out.1]; show s :: r = if s.1 ≤ nw' - k then fg (nw' - k) r else s :: r; rw [if_neg ht]
                  have hn0 : 0 < n4 := by omega
                  clear ht HG hn1
                  go_wp2_with fail
                  go_meet
                  clear eK
                  case rel => exact ⟨nw', la, _, n4, c4, _, rfl, rfl, rfl, s15, s25, by rw [← HN.out]; exact ml6, pv2, hb5⟩
          | false =>
            have HWf : Hid (Wf L k nw) := s1'.f
            have hn1 := s1'.f.n1
            have hL100 : L.length ≤ 100 := s1'.f.le
            have HA : Hid (adL L k nw (T, vo, vn) = if adE L k nw T = 0 then L ++ [nrm (T, vo, vn)] else L) := rfl
            have HAQ : Hid (¬ (T < 0 ∨ nw < T ∨ T ≤ nw - k) → ((L ≠ [] ∧ T ≤ (lst L).1) ↔ T ≤ la)) := fun h => pv.same h
            have HPS0 : Hid (T ≤ 1000000 → Pv T (L ++ [nrm (T, vo, vn)]) k nw) := fun h => pv.snoc (T, vo, vn) (nrm_nrm (T, vo, vn) hrV) h
            have hno := fun W => rnorm_any vo vn W hrV
            have HNr : Hid (nrm (T, vo, vn) = (T, ov (cnt vo vn), nn (cnt vo vn))) := rfl
            have ekw : Hid (wrap64 (nw - k) = nw - k) := wf64 (by omega) (by omega)
            obtain ⟨x0, x1, x2, _, _, _⟩ := id xs
            go_upto_block 4 with fail
            go_cut [9, 10, 13] from 34 to 205 (fun c m z wx => ∃ (la' : Int) (ao3 : Option Addr) (n3 c3 : Nat), c = .int .i64 la' ∧ m = .slice ao3 n3 c3 ∧ z = .int .i64 (adE L k nw T) ∧ Ml wx b1 b2 ao3 n3 c3 (adL L k nw (T, vo, vn)) ∧ Pv la' (adL L k nw (T, vo, vn)) k nw ∧ St wx b1 L k nw true ∧ St wx b2 L k nw false ∧ BoxS wx D (T, vo, vn) ∧ Below w.heap.size w wx)
            case first =>
              have ek := ekw.out
              by_cases ho : T < 0 ∨ nw < T ∨ T ≤ nw - k
              · have HE : Hid (adE L k nw T = 152) := adE_out ho
                by_cases c1 : T < 0
                · have d1 : decide (T < 0) = true := decide_eq_true c1
                  clear ho c1 hno
                  go_wp2_with fail
                  go_meet
                  clear ek
                  case rel => exact ⟨la, ao2, n2, c2, rfl, rfl, by rw [HE.out], by rw [HA.out, HE.out, if_neg (by decide)]; exact ml', by rw [HA.out, HE.out, if_neg (by decide)]; exact pv, s1', s2', xs, hb'⟩
                · have d1 : decide (T < 0) = false := decide_eq_false c1
                  by_cases c2' : nw < T
                  · have d2 : decide (nw < T) = true := decide_eq_true c2'
                    clear ho c1 c2' hno
                    go_wp2_with fail
                    go_meet
                    clear ek
                    case rel => exact ⟨la, ao2, n2, c2, rfl, rfl, by rw [HE.out], by rw [HA.out, HE.out, if_neg (by decide)]; exact ml', by rw [HA.out, HE.out, if_neg (by decide)]; exact pv, s1', s2', xs, hb'⟩
                  · have d2 : decide (nw < T) = false := decide_eq_false c2'
                    have d3 : decide (T ≤ nw - k) = true := decide_eq_true (by omega)
                    clear ho c1 c2' hno
                    go_wp2_with fail
                    go_meet
                    clear ek
                    case rel => exact ⟨la, ao2, n2, c2, rfl, rfl, by rw [HE.out], by rw [HA.out, HE.out, if_neg (by decide)]; exact ml', by rw [HA.out, HE.out, if_neg (by decide)]; exact pv, s1', s2', xs, hb'⟩
              · have d1 : decide (T < 0) = false := decide_eq_false (by omega)
                have d2 : decide (nw < T) = false := decide_eq_false (by omega)
                have d3 : decide (T ≤ nw - k) = false := decide_eq_false (by omega)
                by_cases c4 : T ≤ la
                · have HE : Hid (adE L k nw T = 150) := adE_old ho ((HAQ.out ho).2 c4)
                  have d4 : decide (T ≤ la) = true := decide_eq_true c4
                  clear ho c4 hno
                  go_wp2_with fail
                  go_meet
                  clear ek
                  case rel => exact ⟨la, ao2, n2, c2, rfl, rfl, by rw [HE.out], by rw [HA.out, HE.out, if_neg (by decide)]; exact ml', by rw [HA.out, HE.out, if_neg (by decide)]; exact pv, s1', s2', xs, hb'⟩
                · have HE : Hid (adE L k nw T = 0) := adE_ok ho (fun e => c4 ((HAQ.out ho).1 e))
                  have d4 : decide (T ≤ la) = false := decide_eq_false c4
                  have HPS : Hid (Pv T (L ++ [nrm (T, vo, vn)]) k nw) := HPS0.out (by omega)
                  clear ho c4 HPS0
                  rw [HNr.out] at HPS HA
                  generalize ov (cnt vo vn) = fo at *
                  generalize nn (cnt vo vn) = fn at *
                  clear HNr
                  go_wp2_with fail
                  clear ek
                  have x6 : BoxS wz.drew D (T, vo, vn) := xs.later (Below.refl _ _).drew
                  have s16 := s1'.later (Below.refl _ wz).drew
                  have s26 := s2'.later (Below.refl _ wz).drew
                  have ml6 := ml'.later (Below.refl _ wz).drew
                  have hb6 := hb'.trans (Below.refl _ _).drew
                  have hll : L.length = n2 := ml6.s.1
                  have hlc : n2 ≤ c2 := ml6.le
                  have hlo : (cellsS L).length = n2 * 3 := by rw [cellsS_length, hll]
                  have hne0 := ml6.ne
                  have hno0 := ml6.no
                  clear s1' s2' ml' hb' xs x0 x1 x2
                  rcases ao2 with _ | ⟨vb, off, sp⟩
                  · obtain ⟨rfl, rfl⟩ := hno0 rfl
                    have hnone : (none : Option Addr) = none → (0 : Nat) = 0 ∧ (0 : Nat) = 0 := fun _ => ⟨rfl, rfl⟩
                    have hS0 : (fun W : World => W.cell? ⟨D, 0, none⟩ = some (Value.int .i64 T) ∧ W.cell? ⟨D, 1, none⟩ = some (Value.bool vo) ∧ W.cell? ⟨D, 2, none⟩ = some (Value.int .i64 vn)) _ := ⟨x6.c0, x6.c1, x6.c2⟩
                    refine wp_region_noPanic ?_
                    refine wp_region_held_drew (S := fun W : World => W.cell? ⟨D, 0, none⟩ = some (Value.int .i64 T) ∧ W.cell? ⟨D, 1, none⟩ = some (Value.bool vo) ∧ W.cell? ⟨D, 2, none⟩ = some (Value.int .i64 vn)) (by kernel_rfl) hS0 (fun _ => ?_)
                    refine take_at 0 (some 95) (.slice none 0 0) rfl rfl (by kernel_rfl) (by kernel_rfl) (by kernel_rfl) (fun _ _ _ h => h) (by rfl) (fun W hSw => by obtain ⟨q0, q1, q2⟩ := hSw; go_simp) hS0 ?_
                    simp only [Act.put, List.setIfInBounds_toArray, List.set_cons_zero, List.set_cons_succ]
                    refine take_at 1 (some 96) (.slice none 0 0) rfl rfl (by kernel_rfl) (by kernel_rfl) (by kernel_rfl) (fun _ _ _ h => h) (by rfl) (fun W hSw => by obtain ⟨q0, q1, q2⟩ := hSw; go_simp) hS0 ?_
                    simp only [Act.put, List.setIfInBounds_toArray, List.set_cons_zero, List.set_cons_succ]
                    refine take_at 2 (some 97) (.int .i64 0) rfl rfl (by kernel_rfl) (by kernel_rfl) (by kernel_rfl) (fun _ _ _ h => h) (by rfl) (fun W hSw => by obtain ⟨q0, q1, q2⟩ := hSw; go_simp) hS0 ?_
                    simp only [Act.put, List.setIfInBounds_toArray, List.set_cons_zero, List.set_cons_succ]
                    refine take_at 3 (some 98) (.slice none 0 0) rfl rfl (by kernel_rfl) (by kernel_rfl) (by kernel_rfl) (fun _ _ _ h => h) (by rfl) (fun W hSw => by obtain ⟨q0, q1, q2⟩ := hSw; go_simp) hS0 ?_
                    simp only [Act.put, List.setIfInBounds_toArray, List.set_cons_zero, List.set_cons_succ]
                    refine take_at 4 (some 99) (.int .i64 0) rfl rfl (by kernel_rfl) (by kernel_rfl) (by kernel_rfl) (fun _ _ _ h => h) (by rfl) (fun W hSw => by obtain ⟨q0, q1, q2⟩ := hSw; go_simp) hS0 ?_
                    simp only [Act.put, List.setIfInBounds_toArray, List.set_cons_zero, List.set_cons_succ]
                    refine take_at 5 (some 100) (.slice none 0 0) rfl rfl (by kernel_rfl) (by kernel_rfl) (by kernel_rfl) (fun _ _ _ h => h) (by rfl) (fun W hSw => by obtain ⟨q0, q1, q2⟩ := hSw; go_simp) hS0 ?_
                    simp only [Act.put, List.setIfInBounds_toArray, List.set_cons_zero, List.set_cons_succ]
                    refine take_at 6 (some 101) (.pointer (some ⟨D, 0, none⟩)) rfl rfl (by kernel_rfl) (by kernel_rfl) (by kernel_rfl) (fun _ _ _ h => h) (by rfl) (fun W hSw => by obtain ⟨q0, q1, q2⟩ := hSw; go_simp) hS0 ?_
                    simp only [Act.put, List.setIfInBounds_toArray, List.set_cons_zero, List.set_cons_succ]
                    refine take_at 7 (some 102) (.int .i64 T) rfl rfl (by kernel_rfl) (by kernel_rfl) (by kernel_rfl) (fun _ _ _ h => h) (by rfl) (fun W hSw => by obtain ⟨q0, q1, q2⟩ := hSw; go_simp) hS0 ?_
                    simp only [Act.put, List.setIfInBounds_toArray, List.set_cons_zero, List.set_cons_succ]
                    refine take_at 8 (some 103) (.pointer (some ⟨D, 1, none⟩)) rfl rfl (by kernel_rfl) (by kernel_rfl) (by kernel_rfl) (fun _ _ _ h => h) (by rfl) (fun W hSw => by obtain ⟨q0, q1, q2⟩ := hSw; go_simp) hS0 ?_
                    simp only [Act.put, List.setIfInBounds_toArray, List.set_cons_zero, List.set_cons_succ]
                    refine take_at 9 (some 104) (.agg #[.bool vo, .int .i64 vn]) rfl rfl (by kernel_rfl) (by kernel_rfl) (by kernel_rfl) (fun _ _ _ h => h) (by rfl) (fun W hSw => by obtain ⟨q0, q1, q2⟩ := hSw; go_simp) hS0 ?_
                    simp only [Act.put, List.setIfInBounds_toArray, List.set_cons_zero, List.set_cons_succ]
                    refine wpAnyH_ready (rs := [10]) (by kernel_rfl) (by simp) ?_
                    refine AllReadyH.cons rfl (fun K hK => ?_) AllReadyH.nil
                    go_simp
                    refine (hno _).mono ?_
                    rintro e w7 ⟨rfl, hb7⟩
                    have x7 := x6.later hb7
                    have s17 := s16.later hb7
                    have s27 := s26.later hb7
                    have ml7 := ml6.later hb7
                    have hbz := Below.chain hb6 hb7
                    have hS7 := (⟨x7.c0, x7.c1, x7.c2⟩ : (fun W : World => W.cell? ⟨D, 0, none⟩ = some (Value.int .i64 T) ∧ W.cell? ⟨D, 1, none⟩ = some (Value.bool vo) ∧ W.cell? ⟨D, 2, none⟩ = some (Value.int .i64 vn)) _)
                    refine hK.out _ _ hS7 (fun _ => ?_)
                    clear hK K
                    refine take_at 11 (some 106) (.agg #[.int .i64 T, .bool fo, .int .i64 fn]) rfl rfl (by kernel_rfl) (by kernel_rfl) (by kernel_rfl) (fun _ _ _ h => h) (by rfl) (fun W hSw => by obtain ⟨q0, q1, q2⟩ := hSw; go_simp) hS7 ?_
                    simp only [Act.put, List.setIfInBounds_toArray, List.set_cons_zero, List.set_cons_succ]
                    have hbal := bal (Below.refl _ w7) (.cells #[.int .i64 T, .bool fo, .int .i64 fn] 32)
                    have x8 := x7.later hbal
                    have s18 := s17.later hbal
                    have s28 := s27.later hbal
                    have ml8 := ml7.later hbal
                    have y8 := BoxS.new w7 (T, fo, fn)
                    have hb8 := Below.chain hbz hbal
                    have hsz : b1 < (w7.alloc (.cells #[.int .i64 T, .bool fo, .int .i64 fn] 32)).heap.size ∧ b2 < (w7.alloc (.cells #[.int .i64 T, .bool fo, .int .i64 fn] 32)).heap.size := ⟨s18.lt, s28.lt⟩
                    have holds : ∀ b, (none : Option Addr) = some b → ∀ j u, (cellsS L)[j]? = some u → (w7.alloc (.cells #[.int .i64 T, .bool fo, .int .i64 fn] 32)).cell? (b.add j) = some u := fun b e => by cases e
                    refine wpAnyH_ready (rs := [12]) (by kernel_rfl) (by simp) ?_
                    refine AllReadyH.cons rfl (fun K hK => ?_) AllReadyH.nil
                    go_simp
                    have hS8 := (⟨x8.c0, x8.c1, x8.c2⟩ : (fun W : World => W.cell? ⟨D, 0, none⟩ = some (Value.int .i64 T) ∧ W.cell? ⟨D, 1, none⟩ = some (Value.bool vo) ∧ W.cell? ⟨D, 2, none⟩ = some (Value.int .i64 vn)) _)
                    refine hK.out _ _ hS8 (fun _ => ?_)
                    clear hK K
                    refine wpAnyH_ready (rs := [13]) (by kernel_rfl) (by simp) ?_
                    refine AllReadyH.cons rfl (fun K hK => ?_) AllReadyH.nil
                    refine step_grows _ _ (some 108) 26 rfl rfl (by rfl) 32 i0 (sv s0) 3 24 Try.underlying26 hi hz0 hz1 hz2 zeroS (by decide) none 0 0 (cellsS L) rfl hnone hlo holds ⟨w7.heap.size, 0, none⟩ 1 1 (cellsS [(T, fo, fn)]) rfl rfl (fun q u hu => y8.cells q u hu) (cellsS_one _) (by omega) (by unfold maxLen; omega) (by omega) ?_
                    intro v9 w9 ho9 hg9
                    have x9 := x8.kept hg9 (by simp)
                    have s19 := s18.kept hg9 (by simp)
                    have s29 := s28.kept hg9 (by simp)
                    have hS9 := (⟨x9.c0, x9.c1, x9.c2⟩ : (fun W : World => W.cell? ⟨D, 0, none⟩ = some (Value.int .i64 T) ∧ W.cell? ⟨D, 1, none⟩ = some (Value.bool vo) ∧ W.cell? ⟨D, 2, none⟩ = some (Value.int .i64 vn)) _)
                    refine hK.out _ _ hS9 (fun _ => ?_)
                    clear hK K
                    obtain ⟨ao9, n9, c9, rfl, ml9⟩ := Own.ml (Own.snoc (by rw [hll]; exact ho9)) b1 b2 hsz.1 hsz.2
                    have hbe : Below w.heap.size w w9 := hb8.grown hg9 hb8.size (fun k hk => by cases hk)
                    refine take_at 14 (some 10) (.slice ao9 n9 c9) rfl rfl (by kernel_rfl) (by kernel_rfl) (by kernel_rfl) (fun _ _ _ h => h) (by rfl) (fun W hSw => by obtain ⟨q0, q1, q2⟩ := hSw; go_simp) hS9 ?_
                    simp only [Act.put, List.setIfInBounds_toArray, List.set_cons_zero, List.set_cons_succ]
                    refine wpAnyH_done (by kernel_rfl) ?_ _
                    refine NoPanic.normal ?_
                    clear hS0 hS7 hS8 hS9
                    go_wp2_with fail
                    go_meet
                    case rel => exact ⟨T, ao9, n9, c9, rfl, rfl, by rw [HE.out], by rw [HA.out, HE.out, if_pos rfl]; exact ml9, by rw [HA.out, HE.out, if_pos rfl]; exact HPS.out, s19, s29, x9, hbe⟩
                  · obtain rfl : sp = none := (hne0 _ rfl).2.2
                    have hnone : (some (⟨vb, off, none⟩ : Addr)) = none → n2 = 0 ∧ n2 = 0 := fun e => by cases e
                    have hS0 : (fun W : World => W.cell? ⟨D, 0, none⟩ = some (Value.int .i64 T) ∧ W.cell? ⟨D, 1, none⟩ = some (Value.bool vo) ∧ W.cell? ⟨D, 2, none⟩ = some (Value.int .i64 vn)) _ := ⟨x6.c0, x6.c1, x6.c2⟩
                    refine wp_region_noPanic ?_
                    refine wp_region_held_drew (S := fun W : World => W.cell? ⟨D, 0, none⟩ = some (Value.int .i64 T) ∧ W.cell? ⟨D, 1, none⟩ = some (Value.bool vo) ∧ W.cell? ⟨D, 2, none⟩ = some (Value.int .i64 vn)) (by kernel_rfl) hS0 (fun _ => ?_)
                    refine take_at 0 (some 95) (.slice (some ⟨vb, off, none⟩) n2 c2) rfl rfl (by kernel_rfl) (by kernel_rfl) (by kernel_rfl) (fun _ _ _ h => h) (by rfl) (fun W hSw => by obtain ⟨q0, q1, q2⟩ := hSw; go_simp) hS0 ?_
                    simp only [Act.put, List.setIfInBounds_toArray, List.set_cons_zero, List.set_cons_succ]
                    refine take_at 1 (some 96) (.slice (some ⟨vb, off, none⟩) n2 c2) rfl rfl (by kernel_rfl) (by kernel_rfl) (by kernel_rfl) (fun _ _ _ h => h) (by rfl) (fun W hSw => by obtain ⟨q0, q1, q2⟩ := hSw; go_simp) hS0 ?_
                    simp only [Act.put, List.setIfInBounds_toArray, List.set_cons_zero, List.set_cons_succ]
                    refine take_at 2 (some 97) (.int .i64 n2) rfl rfl (by kernel_rfl) (by kernel_rfl) (by kernel_rfl) (fun _ _ _ h => h) (by rfl) (fun W hSw => by obtain ⟨q0, q1, q2⟩ := hSw; go_simp) hS0 ?_
                    simp only [Act.put, List.setIfInBounds_toArray, List.set_cons_zero, List.set_cons_succ]
                    refine take_at 3 (some 98) (.slice (some ⟨vb, off, none⟩) n2 c2) rfl rfl (by kernel_rfl) (by kernel_rfl) (by kernel_rfl) (fun _ _ _ h => h) (by rfl) (fun W hSw => by obtain ⟨q0, q1, q2⟩ := hSw; go_simp) hS0 ?_
                    simp only [Act.put, List.setIfInBounds_toArray, List.set_cons_zero, List.set_cons_succ]
                    refine take_at 4 (some 99) (.int .i64 n2) rfl rfl (by kernel_rfl) (by kernel_rfl) (by kernel_rfl) (fun _ _ _ h => h) (by rfl) (fun W hSw => by obtain ⟨q0, q1, q2⟩ := hSw; go_simp) hS0 ?_
                    simp only [Act.put, List.setIfInBounds_toArray, List.set_cons_zero, List.set_cons_succ]
                    refine take_at 5 (some 100) (.slice (some ⟨vb, off, none⟩) n2 n2) rfl rfl (by kernel_rfl) (by kernel_rfl) (by kernel_rfl) (fun _ _ _ h => h) (by rfl) (fun W hSw => by obtain ⟨q0, q1, q2⟩ := hSw; go_simp) hS0 ?_
                    simp only [Act.put, List.setIfInBounds_toArray, List.set_cons_zero, List.set_cons_succ]
                    refine take_at 6 (some 101) (.pointer (some ⟨D, 0, none⟩)) rfl rfl (by kernel_rfl) (by kernel_rfl) (by kernel_rfl) (fun _ _ _ h => h) (by rfl) (fun W hSw => by obtain ⟨q0, q1, q2⟩ := hSw; go_simp) hS0 ?_
                    simp only [Act.put, List.setIfInBounds_toArray, List.set_cons_zero, List.set_cons_succ]
                    refine take_at 7 (some 102) (.int .i64 T) rfl rfl (by kernel_rfl) (by kernel_rfl) (by kernel_rfl) (fun _ _ _ h => h) (by rfl) (fun W hSw => by obtain ⟨q0, q1, q2⟩ := hSw; go_simp) hS0 ?_
                    simp only [Act.put, List.setIfInBounds_toArray, List.set_cons_zero, List.set_cons_succ]
                    refine take_at 8 (some 103) (.pointer (some ⟨D, 1, none⟩)) rfl rfl (by kernel_rfl) (by kernel_rfl) (by kernel_rfl) (fun _ _ _ h => h) (by rfl) (fun W hSw => by obtain ⟨q0, q1, q2⟩ := hSw; go_simp) hS0 ?_
                    simp only [Act.put, List.setIfInBounds_toArray, List.set_cons_zero, List.set_cons_succ]
                    refine take_at 9 (some 104) (.agg #[.bool vo, .int .i64 vn]) rfl rfl (by kernel_rfl) (by kernel_rfl) (by kernel_rfl) (fun _ _ _ h => h) (by rfl) (fun W hSw => by obtain ⟨q0, q1, q2⟩ := hSw; go_simp) hS0 ?_
                    simp only [Act.put, List.setIfInBounds_toArray, List.set_cons_zero, List.set_cons_succ]
                    refine wpAnyH_ready (rs := [10]) (by kernel_rfl) (by simp) ?_
                    refine AllReadyH.cons rfl (fun K hK => ?_) AllReadyH.nil
                    go_simp
                    refine (hno _).mono ?_
                    rintro e w7 ⟨rfl, hb7⟩
                    have x7 := x6.later hb7
                    have s17 := s16.later hb7
                    have s27 := s26.later hb7
                    have ml7 := ml6.later hb7
                    have hbz := Below.chain hb6 hb7
                    have hS7 := (⟨x7.c0, x7.c1, x7.c2⟩ : (fun W : World => W.cell? ⟨D, 0, none⟩ = some (Value.int .i64 T) ∧ W.cell? ⟨D, 1, none⟩ = some (Value.bool vo) ∧ W.cell? ⟨D, 2, none⟩ = some (Value.int .i64 vn)) _)
                    refine hK.out _ _ hS7 (fun _ => ?_)
                    clear hK K
                    refine take_at 11 (some 106) (.agg #[.int .i64 T, .bool fo, .int .i64 fn]) rfl rfl (by kernel_rfl) (by kernel_rfl) (by kernel_rfl) (fun _ _ _ h => h) (by rfl) (fun W hSw => by obtain ⟨q0, q1, q2⟩ := hSw; go_simp) hS7 ?_
                    simp only [Act.put, List.setIfInBounds_toArray, List.set_cons_zero, List.set_cons_succ]
                    have hbal := bal (Below.refl _ w7) (.cells #[.int .i64 T, .bool fo, .int .i64 fn] 32)
                    have x8 := x7.later hbal
                    have s18 := s17.later hbal
                    have s28 := s27.later hbal
                    have ml8 := ml7.later hbal
                    have y8 := BoxS.new w7 (T, fo, fn)
                    have hb8 := Below.chain hbz hbal
                    have hsz : b1 < (w7.alloc (.cells #[.int .i64 T, .bool fo, .int .i64 fn] 32)).heap.size ∧ b2 < (w7.alloc (.cells #[.int .i64 T, .bool fo, .int .i64 fn] 32)).heap.size := ⟨s18.lt, s28.lt⟩
                    have holds : ∀ b, (some (⟨vb, off, none⟩ : Addr)) = some b → ∀ j u, (cellsS L)[j]? = some u → (w7.alloc (.cells #[.int .i64 T, .bool fo, .int .i64 fn] 32)).cell? (b.add j) = some u := fun b e => by
                      injection e with e
                      subst e
                      exact ml8.s.cells
                    refine wpAnyH_ready (rs := [12]) (by kernel_rfl) (by simp) ?_
                    refine AllReadyH.cons rfl (fun K hK => ?_) AllReadyH.nil
                    go_simp
                    have hS8 := (⟨x8.c0, x8.c1, x8.c2⟩ : (fun W : World => W.cell? ⟨D, 0, none⟩ = some (Value.int .i64 T) ∧ W.cell? ⟨D, 1, none⟩ = some (Value.bool vo) ∧ W.cell? ⟨D, 2, none⟩ = some (Value.int .i64 vn)) _)
                    refine hK.out _ _ hS8 (fun _ => ?_)
                    clear hK K
                    refine wpAnyH_ready (rs := [13]) (by kernel_rfl) (by simp) ?_
                    refine AllReadyH.cons rfl (fun K hK => ?_) AllReadyH.nil
                    refine step_grows _ _ (some 108) 26 rfl rfl (by rfl) 32 i0 (sv s0) 3 24 Try.underlying26 hi hz0 hz1 hz2 zeroS (by decide) (some ⟨vb, off, none⟩) n2 n2 (cellsS L) rfl hnone hlo holds ⟨w7.heap.size, 0, none⟩ 1 1 (cellsS [(T, fo, fn)]) rfl rfl (fun q u hu => y8.cells q u hu) (cellsS_one _) (by omega) (by unfold maxLen; omega) (by omega) ?_
                    intro v9 w9 ho9 hg9
                    have x9 := x8.kept hg9 (by simp)
                    have s19 := s18.kept hg9 (by simp)
                    have s29 := s28.kept hg9 (by simp)
                    have hS9 := (⟨x9.c0, x9.c1, x9.c2⟩ : (fun W : World => W.cell? ⟨D, 0, none⟩ = some (Value.int .i64 T) ∧ W.cell? ⟨D, 1, none⟩ = some (Value.bool vo) ∧ W.cell? ⟨D, 2, none⟩ = some (Value.int .i64 vn)) _)
                    refine hK.out _ _ hS9 (fun _ => ?_)
                    clear hK K
                    obtain ⟨ao9, n9, c9, rfl, ml9⟩ := Own.ml (Own.snoc (by rw [hll]; exact ho9)) b1 b2 hsz.1 hsz.2
                    have hbe : Below w.heap.size w w9 := hb8.grown hg9 hb8.size (fun k hk => by cases hk)
                    refine take_at 14 (some 10) (.slice ao9 n9 c9) rfl rfl (by kernel_rfl) (by kernel_rfl) (by kernel_rfl) (fun _ _ _ h => h) (by rfl) (fun W hSw => by obtain ⟨q0, q1, q2⟩ := hSw; go_simp) hS9 ?_
                    simp only [Act.put, List.setIfInBounds_toArray, List.set_cons_zero, List.set_cons_succ]
                    refine wpAnyH_done (by kernel_rfl) ?_ _
                    refine NoPanic.normal ?_
                    clear hS0 hS7 hS8 hS9
                    go_wp2_with fail
                    go_meet
                    case rel => exact ⟨T, ao9, n9, c9, rfl, rfl, by rw [HE.out], by rw [HA.out, HE.out, if_pos rfl]; exact ml9, by rw [HA.out, HE.out, if_pos rfl]; exact HPS.out, s19, s29, x9, hbe⟩
            case rest =>
              obtain ⟨la', ao3, n3, c3, rfl, rfl, rfl, ml3, pv3, s13, s23, xs3, hb3⟩ := hcut
              have d1 := fun W hW => add_st b1 _ _ _ true (T, vo, vn) W (hW : St W b1 L k nw true) hrV
              have d2 := fun W hW => add_st b2 _ _ _ false (T, vo, vn) W (hW : St W b2 L k nw false) hrV
              rw [show (((T, vo, vn) : Smp).1) = T from rfl] at d1 d2
              clear s1' s2' ml' hb' xs x0 x1 x2 hno HNr HPS0 HA
              generalize adL L k nw (T, vo, vn) = L' at *
              generalize adE L k nw T = er at *
              obtain ⟨x0, x1, x2, _, _, _⟩ := id xs3
              go_wp2_with fail
              refine (d1 _ s13).mono ?_
              rintro e w4 ⟨rfl, s14, hg⟩
              have s24 := s23.kept hg (by simp; have := HB12.out; omega)
              have ml4 := ml3.kept hg (Or.inr (Or.inl rfl))
              have xs4 := xs3.kept hg (by simp; omega)
              have hb4 := grown_above hb3 hg hb3.size hB1
              clear d1 s13 s23 ml3 xs3 hb3 hg x0 x1 x2
              obtain ⟨x0, x1, x2, _, _, _⟩ := id xs4
              go_wp2_with fail
              refine (d2 _ s24).mono ?_
              rintro e w5 ⟨rfl, s25, hg⟩
              have s15 := s14.kept hg (by simp; have := HB12.out; omega)
              have ml5 := ml4.kept hg (Or.inr (Or.inr rfl))
              have hb5 := grown_above hb4 hg hb4.size hB2
              clear d2 s14 s24 ml4 xs4 hb4 hg x0 x1 x2
              go_wp2_with fail
              go_meet
              case rel => exact ⟨nw, la', ao3, n3, c3, L', rfl, rfl, rfl, s15, s25, ml5, pv3, hb5⟩
        case rest =>
          obtain ⟨nw', la', ao3, n3, c3, L', rfl, rfl, rfl, s13, s23, ml3, pv3, hb3⟩ := hcut
          clear s1' s2' ml' hb' xs pv u0' hD
          have hwf := s13.f
          have hl3 : L'.length = n3 := ml3.s.1
          have hL100 : L'.length ≤ 1000 := by have := hwf.le; omega
          have HP3 : Hid (∀ s ∈ L', nrm s = s) := pv3.p3
          have HRg : Hid (∀ s ∈ L', R64 s.2.2) := hwf.rg
          have g1 := get_st b1 _ _ _ true _ s13
          have g2 := fun W hW => get_st b2 _ _ _ false W (hW : St W b2 L' k nw' false)
          have gv := fun W hW => values_any ao3 n3 c3 L' W (by omega) (hW : Ms W ao3 n3 L') HRg.out
          have gx := fun v bs gg W hW => rext_all v bs gg L' W hW hL100 HP3.out HRg.out
          have gk := fun gg W hW => rkept_any ao3 n3 c3 L' gg W (by omega) (hW : Ms W ao3 n3 L') HRg.out
          have q1 := fun W hW => kept_st b1 _ _ _ true W (hW : St W b1 L' k nw' true)
          have q2 := fun W hW => kept_st b2 _ _ _ false W (hW : St W b2 L' k nw' false)
          have gx1 := fun v bs W hW => gx v bs true W hW
          have gx2 := fun v bs W hW => gx v bs false W hW
          have gk1 := gk true
          have gk2 := gk false
          clear hwf gx gk
          have HLT : Hid (i < n) := hlt
          have en : Hid (wrap64 ((i : Int) + 1) = (i : Int) + 1) := nadd i (by omega)
          generalize (!L'.isEmpty) = em at *
          generalize (bst true L').2.1 = xo at *
          generalize (bst true L').2.2 = xn at *
          generalize (bst false L').2.1 = yo at *
          generalize (bst false L').2.2 = yn at *
          generalize (thn (kg true) L').length = kx at *
          generalize (thn (kg false) L').length = ky' at *
          go_wp2_with fail
          refine g1.mono ?_
          rintro e w4 ⟨rfl, hbn⟩
          have hbl := bal (Below.refl _ w4) (.cells #[.bool xo, .int .i64 xn] 28)
          have xA := Box.new w4 xo xn
          have s14 := (s13.later hbn).later hbl
          have s24 := (s23.later hbn).later hbl
          have ml4 := (ml3.later hbn).later hbl
          have hb4 := bal (Below.chain hb3 hbn) (.cells #[.bool xo, .int .i64 xn] 28)
          clear g1 s13 s23 ml3 hb3 hbn hbl
          go_wp2_with fail
          generalize w4.alloc (.cells #[.bool xo, .int .i64 xn] 28) = w4a at *
          generalize w4.heap.size = A at *
          refine (g2 _ s24).mono ?_
          rintro e w5 ⟨rfl, hbn⟩
          have hbl := bal (Below.refl _ w5) (.cells #[.bool yo, .int .i64 yn] 28)
          have xB := Box.new w5 yo yn
          have xA5 := (xA.later hbn).later hbl
          have s15 := (s14.later hbn).later hbl
          have s25 := (s24.later hbn).later hbl
          have ml5 := (ml4.later hbn).later hbl
          have hb5 := bal (Below.chain hb4 hbn) (.cells #[.bool yo, .int .i64 yn] 28)
          clear g2 s14 s24 ml4 hb4 hbn hbl xA
          go_wp2_with fail
          generalize w5.alloc (.cells #[.bool yo, .int .i64 yn] 28) = w5a at *
          generalize w5.heap.size = B at *
          refine (gv _ ml5.s).mono ?_
          rintro e w6 ⟨v6, rfl, ho6, hbn⟩
          have xA6 := xA5.later hbn
          have xB6 := xB.later hbn
          have s16 := s15.later hbn
          have s26 := s25.later hbn
          have ml6 := ml5.later hbn
          have hb6 := Below.chain hb5 hbn
          clear s15 s25 ml5 hb5 hbn xA5 xB
          go_wp2_with fail
          refine (gx1 _ _ _ ho6).mono ?_
          rintro e w7 ⟨rfl, hbn⟩
          have hbl := bal (Below.refl _ w7) (.cells #[.bool xo, .int .i64 xn] 28)
          have xC := Box.new w7 xo xn
          have xA7 := (xA6.later hbn).later hbl
          have xB7 := (xB6.later hbn).later hbl
          have s17 := (s16.later hbn).later hbl
          have s27 := (s26.later hbn).later hbl
          have ml7 := (ml6.later hbn).later hbl
          have hb7 := bal (Below.chain hb6 hbn) (.cells #[.bool xo, .int .i64 xn] 28)
          clear gx1 s16 s26 ml6 hb6 hbn hbl xA6 xB6 ho6
          go_wp2_with fail
          generalize w7.alloc (.cells #[.bool xo, .int .i64 xn] 28) = w7a at *
          generalize w7.heap.size = C at *
          refine (gv _ ml7.s).mono ?_
          rintro e w8 ⟨v8, rfl, ho8, hbn⟩
          have xA8 := xA7.later hbn
          have xB8 := xB7.later hbn
          have xC8 := xC.later hbn
          have s18 := s17.later hbn
          have s28 := s27.later hbn
          have ml8 := ml7.later hbn
          have hb8 := Below.chain hb7 hbn
          clear gv s17 s27 ml7 hb7 hbn xA7 xB7 xC
          go_wp2_with fail
          refine (gx2 _ _ _ ho8).mono ?_
          rintro e w9 ⟨rfl, hbn⟩
          have hbl := bal (Below.refl _ w9) (.cells #[.bool yo, .int .i64 yn] 28)
          have xD := Box.new w9 yo yn
          have xA9 := (xA8.later hbn).later hbl
          have xB9 := (xB8.later hbn).later hbl
          have xC9 := (xC8.later hbn).later hbl
          have s19 := (s18.later hbn).later hbl
          have s29 := (s28.later hbn).later hbl
          have ml9 := (ml8.later hbn).later hbl
          have hb9 := bal (Below.chain hb8 hbn) (.cells #[.bool yo, .int .i64 yn] 28)
          clear gx2 s18 s28 ml8 hb8 hbn hbl xA8 xB8 xC8 ho8
          obtain ⟨m0, m1, _, _⟩ := id xA9
          obtain ⟨m2, m3, _, _⟩ := id xB9
          obtain ⟨m4, m5, _, _⟩ := id xC9
          obtain ⟨m6, m7, _, _⟩ := id xD
          go_wp2_with fail
          generalize w9.alloc (.cells #[.bool yo, .int .i64 yn] 28) = w9a at *
          generalize w9.heap.size = E at *
          refine (q1 _ s19).mono ?_
          rintro e w' ⟨rfl, rfl⟩
          go_wp2_with fail
          refine (gk1 _ ml9.s).mono ?_
          rintro e wk ⟨rfl, hbn⟩
          have s2k := s29.later hbn
          have s1k := s19.later hbn
          have mlk := ml9.later hbn
          have hbk := Below.chain hb9 hbn
          clear s19 s29 ml9 hb9 hbn m0 m1 m2 m3 m4 m5 m6 m7 xA9 xB9 xC9 xD q1 gk1
          go_wp2_with fail
          refine (q2 _ s2k).mono ?_
          rintro e w' ⟨rfl, rfl⟩
          go_wp2_with fail
          refine (gk2 _ mlk.s).mono ?_
          rintro e wl ⟨rfl, hbn⟩
          clear k1 hn hi2 hB1 hB2 hL100 hdn hd
          go_wp2_with fail
          go_roundw
          case rel => exact ⟨i + 1, nw', la', ao3, n3, c3, L', HLT.out, by rw [en.out]; rfl, rfl, rfl, rfl, s1k.later hbn, s2k.later hbn, mlk.later hbn, pv3, Below.chain hbk hbn⟩
          case measure => rw [en.out]; exact meas i n HLT.out
      · have hd : decide ((i : Int) < (n : Int)) = false := decide_eq_false (by omega)
        go_wp2
        go_ret
        exact ⟨rfl, hb⟩
  · have hdn : decide ((120 : Int) < (n : Int)) = true := decide_eq_true (by omega)
    clear hs hl
    go_enter Try.func3, Try.ntmps3
    go_wp2_with fail
    refine (known_any _).mono ?_
    rintro e w1 ⟨rfl, hb1⟩
    go_wp2
    go_ret
    exact ⟨rfl, hb1⟩
end Go.Proofs.Ytpemknkkignmcaa
