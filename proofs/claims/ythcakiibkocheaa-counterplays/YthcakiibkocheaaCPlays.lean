/- CounterPlays: the walk. -/
import Derived.Test.YthcakiibkocheaaCStep
import Derived.Test.YthcakiibkocheaaCPlQ
import Derived.Deep.CutRange
import Derived.Deep.CutBlock
import Derived.BigQuiet
namespace Go.Proofs.Ythcakiibkocheaa
open Go.RowKit

theorem nadd (i : Nat) (h : i < 160) : wrap64 ((i : Int) + 1) = (i : Int) + 1 := wf64 (by omega) (by omega)
theorem meas (i n : Nat) (h : i < n) : n - (intOf (.int .i64 ((i : Int) + 1))).toNat < n - (intOf (.int .i64 (i : Int))).toNat := by simp [intOf]; omega
set_option maxRecDepth 20000 in
set_option maxHeartbeats 16000000 in
theorem plays_any (K : Int) (ao : Option Addr) (n cap : Nat) (l : List Stp) (w : World) (_hK : -9223372036854775808 ≤ K ∧ K ≤ 9223372036854775807) (_hm : n ≤ maxLen) (hs : Ss w ao n l) (hl : FitS l) :
    Calls Try.prog 3 #[.int .i64 K, .slice ao n cap] w fun e w' => e = .returned (.bool true) ∧ Below w.heap.size w w' := by
  by_cases hn : n ≤ 150
  · have hdn : decide ((150 : Int) < (n : Int)) = false := decide_eq_false (by omega)
    obtain ⟨i0, hi, hz0, hz1, hz2⟩ := infoS_parts
    obtain ⟨k, hk⟩ : ∃ k : Int, k = clamp K := ⟨_, rfl⟩
    have k1 : 1 ≤ k ∧ k ≤ 100 := by rw [hk]; exact clamp_range K
    obtain ⟨hla, hca⟩ := hs
    have HLR : Hid (∀ q, q < n → R64 (l.getD q st0).2.1 ∧ R64 (l.getD q st0).2.2.2) := fun q hq => hl _ (getD_memT (by rw [hla]; exact hq))
    have HCa : Hid (0 < n → ∃ b off, ao = some ⟨b, off, none⟩ ∧ ∀ j, j < n → ∀ W, Below w.heap.size w W → W.cell? ⟨b, off + j * 4, none⟩ = some (.bool (l.getD j st0).1) ∧ W.cell? ⟨b, off + j * 4 + 1, none⟩ = some (.int .i64 (l.getD j st0).2.1) ∧ W.cell? ⟨b, off + j * 4 + 2, none⟩ = some (.bool (l.getD j st0).2.2.1) ∧ W.cell? ⟨b, off + j * 4 + 3, none⟩ = some (.int .i64 (l.getD j st0).2.2.2)) := fun hp => by
      obtain ⟨b, off, e, hc⟩ := hca hp
      exact ⟨b, off, e, fun j hj W hW => by
        obtain ⟨c0, c1, c2, c3⟩ := hc j hj
        exact ⟨(hW.cell (World.block_lt_of_cell? _ _ c0)).trans c0, (hW.cell (World.block_lt_of_cell? _ _ c1)).trans c1, (hW.cell (World.block_lt_of_cell? _ _ c2)).trans c2, (hW.cell (World.block_lt_of_cell? _ _ c3)).trans c3⟩⟩
    clear hla hca hl
    go_enter Try.func3, Try.ntmps3
    go_wp2_with fail
    refine (known_any _).mono ?_
    rintro e w1 ⟨rfl, hb1⟩
    go_wp2_with fail
    refine (new_st K _).mono ?_
    rw [← hk]
    rintro e w2 ⟨rfl, hs3, hb2⟩
    have hB1 : w.heap.size ≤ w1.heap.size := hb1.size
    have hb4 := Below.chain hb1 hb2
    generalize w1.heap.size = b1 at *
    have HCl : Hid (max 1 (min K 100) = k) := by show _ = _; rw [hk]; exact clamp_eq K
    clear hb1 hb2 hk
    go_wp2_with fail
    rw [HCl.out]
    clear HCl
    go_loopw [10, 7, 8, 9] (fun t a c m wr => ∃ (i : Nat) (nw la : Int) (ao2 : Option Addr) (n2 c2 : Nat) (L : List Smp), i ≤ n ∧ t = .int .i64 i ∧ a = .int .i64 nw ∧ c = .int .i64 la ∧ m = .slice ao2 n2 c2 ∧ St wr b1 L k nw ∧ Ml wr b1 b1 ao2 n2 c2 (mN L) ∧ Pv la L k nw ∧ Below w.heap.size w wr) (fun t _ _ _ _ => n - (intOf t).toNat)
    case atStart => exact ⟨0, 0, -1, none, 0, 0, [], by omega, rfl, rfl, rfl, rfl, hs3, ⟨Ms.nil _ _, Nat.le_refl _, fun _ => ⟨rfl, rfl⟩, (fun a e => by cases e)⟩, ⟨fun h => absurd rfl h, fun _ => Or.inr (by decide), by decide⟩, hb4⟩
    case round =>
      clear hs3 hb4
      obtain ⟨i, nw, la, ao2, n2, c2, L, hi2, rfl, rfl, rfl, rfl, s1, ml, pv, hb⟩ := hrel
      by_cases hlt : i < n
      · have hd : decide ((i : Int) < (n : Int)) = true := decide_eq_true (by omega)
        obtain ⟨bb, oo, rfl, hcell⟩ := HCa.out (by omega)
        have HU : Hid _ := hcell i hlt
        have HBlk : Hid (bb < w.heap.size) := World.block_lt_of_cell? w _ (hcell i hlt w (Below.refl _ _)).1
        obtain ⟨u0w, u1w, u2w, u3w⟩ := hcell i hlt _ hb
        obtain ⟨hrT, hrV⟩ := HLR.out i hlt
        clear hcell
        generalize hlq : l.getD i st0 = stp at *
        clear hlq
        obtain ⟨tm, T, vo, vn⟩ := stp
        dsimp only at *
        go_wp2_with fail
        have u0 : wr.drew.cell? ⟨bb, oo + i * 4, none⟩ = some (Value.bool tm) := u0w
        have u1 : wr.drew.cell? ⟨bb, oo + i * 4 + 1, none⟩ = some (Value.int .i64 T) := u1w
        have u2 : wr.drew.cell? ⟨bb, oo + i * 4 + 2, none⟩ = some (Value.bool vo) := u2w
        have u3 : wr.drew.cell? ⟨bb, oo + i * 4 + 3, none⟩ = some (Value.int .i64 vn) := u3w
        have hbd : Below w.heap.size w wr.drew := hb.trans (Below.refl _ _).drew
        have hba := bal (Below.refl _ wr.drew) (.cells #[.int .i64 0, .bool false, .int .i64 0] 32)
        have hbs : Below wr.heap.size wr ((wr.alloc (.cells #[.int .i64 T, .bool vo, .int .i64 vn] 32)).drew) := (bal (Below.refl _ wr) _).drew
        have xs : BoxS ((wr.alloc (.cells #[.int .i64 T, .bool vo, .int .i64 vn] 32)).drew) wr.heap.size (T, vo, vn) := (BoxS.new wr (T, vo, vn)).later (Below.refl _ _).drew
        have hS0 : (fun W : World => W.cell? ⟨bb, oo + i * 4 + 1, none⟩ = some (Value.int .i64 T) ∧ W.cell? ⟨bb, oo + i * 4 + 2, none⟩ = some (Value.bool vo) ∧ W.cell? ⟨bb, oo + i * 4 + 3, none⟩ = some (Value.int .i64 vn)) _ := ⟨u1, u2, u3⟩
        refine wp_region_noPanic ?_
        refine wp_region_held_drew (S := fun W : World => W.cell? ⟨bb, oo + i * 4 + 1, none⟩ = some (Value.int .i64 T) ∧ W.cell? ⟨bb, oo + i * 4 + 2, none⟩ = some (Value.bool vo) ∧ W.cell? ⟨bb, oo + i * 4 + 3, none⟩ = some (Value.int .i64 vn)) (by kernel_rfl) hS0 (fun _ => ?_)
        refine take_at 0 (some 35) (.slice (some ⟨bb, oo, none⟩) n cap) rfl rfl (by kernel_rfl) (by kernel_rfl) (by kernel_rfl) (fun _ _ _ h => h) (by rfl) (fun W hSw => by obtain ⟨q0, q1, q2⟩ := hSw; go_simp) hS0 ?_
        simp only [Act.put, List.setIfInBounds_toArray, List.set_cons_zero, List.set_cons_succ]
        refine take_at 1 (some 36) (.int .i64 i) rfl rfl (by kernel_rfl) (by kernel_rfl) (by kernel_rfl) (fun _ _ _ h => h) (by rfl) (fun W hSw => by obtain ⟨q0, q1, q2⟩ := hSw; go_simp) hS0 ?_
        simp only [Act.put, List.setIfInBounds_toArray, List.set_cons_zero, List.set_cons_succ]
        refine take_at 2 (some 37) (.pointer (some ⟨bb, oo + i * 4, none⟩)) rfl rfl (by kernel_rfl) (by kernel_rfl) (by kernel_rfl) (fun _ _ _ h => h) (by rfl) (fun W hSw => by obtain ⟨q0, q1, q2⟩ := hSw; go_simp; try (intro hh; exfalso; omega)) hS0 ?_
        simp only [Act.put, List.setIfInBounds_toArray, List.set_cons_zero, List.set_cons_succ]
        refine take_at 3 (some 38) (.pointer (some ⟨bb, oo + i * 4 + 1, none⟩)) rfl rfl (by kernel_rfl) (by kernel_rfl) (by kernel_rfl) (fun _ _ _ h => h) (by rfl) (fun W hSw => by obtain ⟨q0, q1, q2⟩ := hSw; go_simp) hS0 ?_
        simp only [Act.put, List.setIfInBounds_toArray, List.set_cons_zero, List.set_cons_succ]
        refine take_at 4 (some 39) (.int .i64 T) rfl rfl (by kernel_rfl) (by kernel_rfl) (by kernel_rfl) (fun _ _ _ h => h) (by rfl) (fun W hSw => by obtain ⟨q0, q1, q2⟩ := hSw; go_simp) hS0 ?_
        simp only [Act.put, List.setIfInBounds_toArray, List.set_cons_zero, List.set_cons_succ]
        refine take_at 5 (some 40) (.slice (some ⟨bb, oo, none⟩) n cap) rfl rfl (by kernel_rfl) (by kernel_rfl) (by kernel_rfl) (fun _ _ _ h => h) (by rfl) (fun W hSw => by obtain ⟨q0, q1, q2⟩ := hSw; go_simp) hS0 ?_
        simp only [Act.put, List.setIfInBounds_toArray, List.set_cons_zero, List.set_cons_succ]
        refine take_at 6 (some 41) (.int .i64 i) rfl rfl (by kernel_rfl) (by kernel_rfl) (by kernel_rfl) (fun _ _ _ h => h) (by rfl) (fun W hSw => by obtain ⟨q0, q1, q2⟩ := hSw; go_simp) hS0 ?_
        simp only [Act.put, List.setIfInBounds_toArray, List.set_cons_zero, List.set_cons_succ]
        refine take_at 7 (some 42) (.pointer (some ⟨bb, oo + i * 4, none⟩)) rfl rfl (by kernel_rfl) (by kernel_rfl) (by kernel_rfl) (fun _ _ _ h => h) (by rfl) (fun W hSw => by obtain ⟨q0, q1, q2⟩ := hSw; go_simp; try (intro hh; exfalso; omega)) hS0 ?_
        simp only [Act.put, List.setIfInBounds_toArray, List.set_cons_zero, List.set_cons_succ]
        refine take_at 8 (some 43) (.pointer (some ⟨bb, oo + i * 4 + 2, none⟩)) rfl rfl (by kernel_rfl) (by kernel_rfl) (by kernel_rfl) (fun _ _ _ h => h) (by rfl) (fun W hSw => by obtain ⟨q0, q1, q2⟩ := hSw; go_simp) hS0 ?_
        simp only [Act.put, List.setIfInBounds_toArray, List.set_cons_zero, List.set_cons_succ]
        refine take_at 9 (some 44) (.agg #[.bool vo, .int .i64 vn]) rfl rfl (by kernel_rfl) (by kernel_rfl) (by kernel_rfl) (fun _ _ _ h => h) (by rfl) (fun W hSw => by obtain ⟨q0, q1, q2⟩ := hSw; go_simp) hS0 ?_
        simp only [Act.put, List.setIfInBounds_toArray, List.set_cons_zero, List.set_cons_succ]
        refine take_at 10 (some 45) (.agg #[.int .i64 T, .bool vo, .int .i64 vn]) rfl rfl (by kernel_rfl) (by kernel_rfl) (by kernel_rfl) (fun _ _ _ h => h) (by rfl) (fun W hSw => by obtain ⟨q0, q1, q2⟩ := hSw; go_simp) hS0 ?_
        simp only [Act.put, List.setIfInBounds_toArray, List.set_cons_zero, List.set_cons_succ]
        refine wpAnyH_ready (rs := [11]) (by kernel_rfl) (by simp) ?_
        refine AllReadyH.cons rfl (fun K hK => ?_) AllReadyH.nil
        go_simp
        have hSa := (⟨(hba.cell (World.block_lt_of_cell? _ _ u1)).trans u1, (hba.cell (World.block_lt_of_cell? _ _ u2)).trans u2, (hba.cell (World.block_lt_of_cell? _ _ u3)).trans u3⟩ : (fun W : World => W.cell? ⟨bb, oo + i * 4 + 1, none⟩ = some (Value.int .i64 T) ∧ W.cell? ⟨bb, oo + i * 4 + 2, none⟩ = some (Value.bool vo) ∧ W.cell? ⟨bb, oo + i * 4 + 3, none⟩ = some (Value.int .i64 vn)) _)
        refine hK.out _ _ hSa (fun _ => ?_)
        clear hK K
        refine wpAnyH_ready (rs := [12]) (by kernel_rfl) (by simp) ?_
        refine AllReadyH.cons rfl (fun K hK => ?_) AllReadyH.nil
        go_simp
        have hSb := (⟨(hbs.cell (World.block_lt_of_cell? _ _ u1w)).trans u1w, (hbs.cell (World.block_lt_of_cell? _ _ u2w)).trans u2w, (hbs.cell (World.block_lt_of_cell? _ _ u3w)).trans u3w⟩ : (fun W : World => W.cell? ⟨bb, oo + i * 4 + 1, none⟩ = some (Value.int .i64 T) ∧ W.cell? ⟨bb, oo + i * 4 + 2, none⟩ = some (Value.bool vo) ∧ W.cell? ⟨bb, oo + i * 4 + 3, none⟩ = some (Value.int .i64 vn)) _)
        refine hK.out _ _ hSb (fun _ => ?_)
        clear hK K
        refine wpAnyH_done (by kernel_rfl) ?_ _
        refine NoPanic.normal ?_
        have u0' := (hbs.cell (World.block_lt_of_cell? _ _ u0w)).trans u0w
        have s1' := s1.later hbs
        have ml' := ml.later hbs
        have hb' := Below.chain hb hbs
        have hD : w.heap.size ≤ wr.heap.size ∧ b1 < wr.heap.size := ⟨hb.size, s1.lt⟩
        have HBB : Hid (bb < w.heap.size) := HBlk.out
        clear hS0 hSa hSb u0 u1 u2 u3 u0w u1w u2w u3w hba hbs s1 ml hb hbd
        generalize ((wr.alloc (.cells #[.int .i64 T, .bool vo, .int .i64 vn] 32)).drew) = wz at *
        generalize wr.heap.size = D at *
        go_upto_if 50 with fail
        go_cut [7, 8, 9, 12] from 29 to 170 (fun a c m z wx => ∃ (nw' la' : Int) (ao3 : Option Addr) (n3 c3 : Nat) (L' : List Smp), a = .int .i64 nw' ∧ c = .int .i64 la' ∧ m = .slice ao3 n3 c3 ∧ St wx b1 L' k nw' ∧ Ml wx b1 b1 ao3 n3 c3 (mN L') ∧ Pv la' L' k nw' ∧ Below w.heap.size w wx)
        case first =>
          cases tm with
          | true =>
            have a1 := adv_st b1 _ _ _ T wz s1'
            have HO : Hid (onw nw T = max nw (min T 1000000)) := rfl
            have hrg := onw_range T s1'.f.n1
            have hL100 : (mN L).length ≤ 100 := by rw [mN_len]; exact s1'.f.le
            have pv2 := pv.adv s1'.f T
            obtain ⟨nw', hnw'⟩ : ∃ x, x = onw nw T := ⟨_, rfl⟩
            rw [← hnw'] at a1 hrg pv2
            have HO2 : Hid (max nw (min T 1000000) = nw') := by show _ = _; rw [hnw']; rfl
            have hK2 : wrap64 (nw' - k) = nw' - k := wf64 (by omega) (by omega)
            have HK2 : Hid _ := hK2
            clear hnw' HO hK2
            go_wp2_with fail
            refine a1.mono ?_
            rintro e w5 ⟨rfl, s15, hg⟩
            have ml5 := ml'.kept hg (Or.inr (Or.inl rfl))
            have hb5 := grown_above hb' hg hb'.size hB1
            have u15 : w5.cell? ⟨bb, oo + i * 4 + 1, none⟩ = some (Value.int .i64 T) := (HU.out w5 hb5).2.1
            clear a1 s1' ml' hb' hg u0' hrg
            go_wp2_with fail
            rw [HO2.out]
            go_loopw [9] (fun m wy => ∃ (ao4 : Option Addr) (n4 c4 : Nat) (r : List Smp), m = .slice ao4 n4 c4 ∧ Ml wy b1 b1 ao4 n4 c4 r ∧ Hid (fg (nw' - k) r = fg (nw' - k) (mN L) ∧ r.length ≤ 100) ∧ wy = w5) (fun m _ => match m with
              | .slice _ q _ => q
              | _ => 0)
            case atStart => exact ⟨ao2, n2, c2, mN L, rfl, ml5, ⟨rfl, hL100⟩, rfl⟩
            case round =>
              obtain ⟨ao4, n4, c4, r, rfl, ml6, HG, rfl⟩ := hrel
              cases r with
              | nil =>
                obtain rfl : n4 = 0 := ml6.s.1.symm
                go_wp2_with fail
                go_meet
                case rel => exact ⟨nw', la, ao4, 0, c4, _, rfl, rfl, rfl, s15, by rw [← mN_fg, ← HG.out.1]; exact ml6, pv2, hb5⟩
              | cons s r =>
                have hn1 : r.length + 1 = n4 := ml6.s.1
                obtain ⟨vb, off, rfl, hcc⟩ := ml6.s.2 (by omega)
                obtain ⟨x0, _, _⟩ := hcc 0 (by omega)
                rw [Nat.zero_mul, Nat.add_zero] at x0
                have hle := ml6.le
                have d0 : decide ((0 : Int) < (n4 : Int)) = true := decide_eq_true (by omega)
                have hnl : n4 ≤ 100 := by have := HG.out.2; rw [List.length_cons] at this; omega
                clear hcc
                have eK := HK2.out
                by_cases ht : s.1 ≤ nw' - k
                · have d1 : decide (s.1 ≤ nw' - k) = true := decide_eq_true ht
                  have HN : Hid (fg (nw' - k) r = fg (nw' - k) (mN L) ∧ r.length ≤ 100) := ⟨by rw [← HG.out.1]; show _ = if s.1 ≤ nw' - k then fg (nw' - k) r else s :: r; rw [if_pos ht], by omega⟩
                  have hn0 : 0 < n4 := by omega
                  clear ht HG hn1
                  go_wp2_with fail
                  have hA : (if c4 = 1 then some (⟨vb, off, none⟩ : Addr) else some ⟨vb, off + 3, none⟩) = some ⟨vb, off + 3, none⟩ ∨ (n4 = 1 ∧ (if c4 = 1 then some (⟨vb, off, none⟩ : Addr) else some ⟨vb, off + 3, none⟩) = some ⟨vb, off, none⟩) := by
                    by_cases hc1 : c4 = 1
                    · rw [if_pos hc1]
                      exact Or.inr ⟨by omega, rfl⟩
                    · rw [if_neg hc1]
                      exact Or.inl rfl
                  go_roundw
                  clear eK
                  case rel => exact ⟨_, n4 - 1, c4 - 1, r, rfl, ml6.tail _ hA, HN, trivial⟩
                  case measure => show n4 - 1 < n4; omega
                · have d1 : decide (s.1 ≤ nw' - k) = false := decide_eq_false ht
                  have HN : Hid (s :: r = fg (nw' - k) (mN L)) := by rw [← HG.out.1]; show s :: r = if s.1 ≤ nw' - k then fg (nw' - k) r else s :: r; rw [if_neg ht]
                  have hn0 : 0 < n4 := by omega
                  clear ht HG hn1
                  go_wp2_with fail
                  go_meet
                  clear eK
                  case rel => exact ⟨nw', la, _, n4, c4, _, rfl, rfl, rfl, s15, by rw [← mN_fg, ← HN.out]; exact ml6, pv2, hb5⟩
          | false =>
            have HWf : Hid (Wf L k nw) := s1'.f
            have hn1 := s1'.f.n1
            have hL100 : (mN L).length ≤ 100 := by rw [mN_len]; exact s1'.f.le
            have HA : Hid (adL L k nw (T, vo, vn) = if adE L k nw T = 0 then L ++ [(T, vo, vn)] else L) := rfl
            have HAQ : Hid (¬ (T < 0 ∨ nw < T ∨ T ≤ nw - k) → ((L ≠ [] ∧ T ≤ (lst L).1) ↔ T ≤ la)) := fun h => pv.same h
            have HPS0 : Hid (T ≤ 1000000 → Pv T (L ++ [(T, vo, vn)]) k nw) := fun h => pv.snoc (T, vo, vn) h
            have hno := fun W => rnorm_any vo vn W hrV
            have HMN : Hid (mN (L ++ [(T, vo, vn)]) = mN L ++ [(T, ov (cnt vo vn), nn (cnt vo vn))]) := mN_snoc _ _
            have ekw : Hid (wrap64 (nw - k) = nw - k) := wf64 (by omega) (by omega)
            obtain ⟨x0, x1, x2, _, _, _⟩ := id xs
            go_upto_block 4 with fail
            go_cut [8, 9, 12] from 29 to 170 (fun c m z wx => ∃ (la' : Int) (ao3 : Option Addr) (n3 c3 : Nat), c = .int .i64 la' ∧ m = .slice ao3 n3 c3 ∧ z = .int .i64 (adE L k nw T) ∧ Ml wx b1 b1 ao3 n3 c3 (mN (adL L k nw (T, vo, vn))) ∧ Pv la' (adL L k nw (T, vo, vn)) k nw ∧ St wx b1 L k nw ∧ BoxS wx D (T, vo, vn) ∧ Below w.heap.size w wx)
            case first =>
              have ek := ekw.out
              by_cases ho : T < 0 ∨ nw < T ∨ T ≤ nw - k
              · have HE : Hid (adE L k nw T = 152) := adE_out ho
                by_cases c1 : T < 0
                · have d1 : decide (T < 0) = true := decide_eq_true c1
                  clear ho c1 hno
                  go_wp2_with fail
                  go_meet
                  clear ek
                  case rel => exact ⟨la, ao2, n2, c2, rfl, rfl, by rw [HE.out], by rw [HA.out, HE.out, if_neg (by decide)]; exact ml', by rw [HA.out, HE.out, if_neg (by decide)]; exact pv, s1', xs, hb'⟩
                · have d1 : decide (T < 0) = false := decide_eq_false c1
                  by_cases c2' : nw < T
                  · have d2 : decide (nw < T) = true := decide_eq_true c2'
                    clear ho c1 c2' hno
                    go_wp2_with fail
                    go_meet
                    clear ek
                    case rel => exact ⟨la, ao2, n2, c2, rfl, rfl, by rw [HE.out], by rw [HA.out, HE.out, if_neg (by decide)]; exact ml', by rw [HA.out, HE.out, if_neg (by decide)]; exact pv, s1', xs, hb'⟩
                  · have d2 : decide (nw < T) = false := decide_eq_false c2'
                    have d3 : decide (T ≤ nw - k) = true := decide_eq_true (by omega)
                    clear ho c1 c2' hno
                    go_wp2_with fail
                    go_meet
                    clear ek
                    case rel => exact ⟨la, ao2, n2, c2, rfl, rfl, by rw [HE.out], by rw [HA.out, HE.out, if_neg (by decide)]; exact ml', by rw [HA.out, HE.out, if_neg (by decide)]; exact pv, s1', xs, hb'⟩
              · have d1 : decide (T < 0) = false := decide_eq_false (by omega)
                have d2 : decide (nw < T) = false := decide_eq_false (by omega)
                have d3 : decide (T ≤ nw - k) = false := decide_eq_false (by omega)
                by_cases c4 : T ≤ la
                · have HE : Hid (adE L k nw T = 150) := adE_old ho ((HAQ.out ho).2 c4)
                  have d4 : decide (T ≤ la) = true := decide_eq_true c4
                  clear ho c4 hno
                  go_wp2_with fail
                  go_meet
                  clear ek
                  case rel => exact ⟨la, ao2, n2, c2, rfl, rfl, by rw [HE.out], by rw [HA.out, HE.out, if_neg (by decide)]; exact ml', by rw [HA.out, HE.out, if_neg (by decide)]; exact pv, s1', xs, hb'⟩
                · have HE : Hid (adE L k nw T = 0) := adE_ok ho (fun e => c4 ((HAQ.out ho).1 e))
                  have d4 : decide (T ≤ la) = false := decide_eq_false c4
                  have HPS : Hid (Pv T (L ++ [(T, vo, vn)]) k nw) := HPS0.out (by omega)
                  clear ho c4 HPS0
                  generalize ov (cnt vo vn) = fo at *
                  generalize nn (cnt vo vn) = fn at *
                  generalize mN L = LM at *
                  go_wp2_with fail
                  clear ek
                  have x6 : BoxS wz.drew D (T, vo, vn) := xs.later (Below.refl _ _).drew
                  have s16 := s1'.later (Below.refl _ wz).drew
                  have ml6 := ml'.later (Below.refl _ wz).drew
                  have hb6 := hb'.trans (Below.refl _ _).drew
                  have hll : LM.length = n2 := ml6.s.1
                  have hlc : n2 ≤ c2 := ml6.le
                  have hlo : (cellsS LM).length = n2 * 3 := by rw [cellsS_length, hll]
                  have hne0 := ml6.ne
                  have hno0 := ml6.no
                  clear s1' ml' hb' xs x0 x1 x2
                  rcases ao2 with _ | ⟨vb, off, sp⟩
                  · obtain ⟨rfl, rfl⟩ := hno0 rfl
                    have hnone : (none : Option Addr) = none → (0 : Nat) = 0 ∧ (0 : Nat) = 0 := fun _ => ⟨rfl, rfl⟩
                    have hS0 : (fun W : World => W.cell? ⟨D, 0, none⟩ = some (Value.int .i64 T) ∧ W.cell? ⟨D, 1, none⟩ = some (Value.bool vo) ∧ W.cell? ⟨D, 2, none⟩ = some (Value.int .i64 vn)) _ := ⟨x6.c0, x6.c1, x6.c2⟩
                    refine wp_region_noPanic ?_
                    refine wp_region_held_drew (S := fun W : World => W.cell? ⟨D, 0, none⟩ = some (Value.int .i64 T) ∧ W.cell? ⟨D, 1, none⟩ = some (Value.bool vo) ∧ W.cell? ⟨D, 2, none⟩ = some (Value.int .i64 vn)) (by kernel_rfl) hS0 (fun _ => ?_)
                    refine take_at 0 (some 83) (.slice none 0 0) rfl rfl (by kernel_rfl) (by kernel_rfl) (by kernel_rfl) (fun _ _ _ h => h) (by rfl) (fun W hSw => by obtain ⟨q0, q1, q2⟩ := hSw; go_simp) hS0 ?_
                    simp only [Act.put, List.setIfInBounds_toArray, List.set_cons_zero, List.set_cons_succ]
                    refine take_at 1 (some 84) (.slice none 0 0) rfl rfl (by kernel_rfl) (by kernel_rfl) (by kernel_rfl) (fun _ _ _ h => h) (by rfl) (fun W hSw => by obtain ⟨q0, q1, q2⟩ := hSw; go_simp) hS0 ?_
                    simp only [Act.put, List.setIfInBounds_toArray, List.set_cons_zero, List.set_cons_succ]
                    refine take_at 2 (some 85) (.int .i64 0) rfl rfl (by kernel_rfl) (by kernel_rfl) (by kernel_rfl) (fun _ _ _ h => h) (by rfl) (fun W hSw => by obtain ⟨q0, q1, q2⟩ := hSw; go_simp) hS0 ?_
                    simp only [Act.put, List.setIfInBounds_toArray, List.set_cons_zero, List.set_cons_succ]
                    refine take_at 3 (some 86) (.slice none 0 0) rfl rfl (by kernel_rfl) (by kernel_rfl) (by kernel_rfl) (fun _ _ _ h => h) (by rfl) (fun W hSw => by obtain ⟨q0, q1, q2⟩ := hSw; go_simp) hS0 ?_
                    simp only [Act.put, List.setIfInBounds_toArray, List.set_cons_zero, List.set_cons_succ]
                    refine take_at 4 (some 87) (.int .i64 0) rfl rfl (by kernel_rfl) (by kernel_rfl) (by kernel_rfl) (fun _ _ _ h => h) (by rfl) (fun W hSw => by obtain ⟨q0, q1, q2⟩ := hSw; go_simp) hS0 ?_
                    simp only [Act.put, List.setIfInBounds_toArray, List.set_cons_zero, List.set_cons_succ]
                    refine take_at 5 (some 88) (.slice none 0 0) rfl rfl (by kernel_rfl) (by kernel_rfl) (by kernel_rfl) (fun _ _ _ h => h) (by rfl) (fun W hSw => by obtain ⟨q0, q1, q2⟩ := hSw; go_simp) hS0 ?_
                    simp only [Act.put, List.setIfInBounds_toArray, List.set_cons_zero, List.set_cons_succ]
                    refine take_at 6 (some 89) (.pointer (some ⟨D, 0, none⟩)) rfl rfl (by kernel_rfl) (by kernel_rfl) (by kernel_rfl) (fun _ _ _ h => h) (by rfl) (fun W hSw => by obtain ⟨q0, q1, q2⟩ := hSw; go_simp) hS0 ?_
                    simp only [Act.put, List.setIfInBounds_toArray, List.set_cons_zero, List.set_cons_succ]
                    refine take_at 7 (some 90) (.int .i64 T) rfl rfl (by kernel_rfl) (by kernel_rfl) (by kernel_rfl) (fun _ _ _ h => h) (by rfl) (fun W hSw => by obtain ⟨q0, q1, q2⟩ := hSw; go_simp) hS0 ?_
                    simp only [Act.put, List.setIfInBounds_toArray, List.set_cons_zero, List.set_cons_succ]
                    refine take_at 8 (some 91) (.pointer (some ⟨D, 1, none⟩)) rfl rfl (by kernel_rfl) (by kernel_rfl) (by kernel_rfl) (fun _ _ _ h => h) (by rfl) (fun W hSw => by obtain ⟨q0, q1, q2⟩ := hSw; go_simp) hS0 ?_
                    simp only [Act.put, List.setIfInBounds_toArray, List.set_cons_zero, List.set_cons_succ]
                    refine take_at 9 (some 92) (.agg #[.bool vo, .int .i64 vn]) rfl rfl (by kernel_rfl) (by kernel_rfl) (by kernel_rfl) (fun _ _ _ h => h) (by rfl) (fun W hSw => by obtain ⟨q0, q1, q2⟩ := hSw; go_simp) hS0 ?_
                    simp only [Act.put, List.setIfInBounds_toArray, List.set_cons_zero, List.set_cons_succ]
                    refine wpAnyH_ready (rs := [10]) (by kernel_rfl) (by simp) ?_
                    refine AllReadyH.cons rfl (fun K hK => ?_) AllReadyH.nil
                    go_simp
                    refine (hno _).mono ?_
                    rintro e w7 ⟨rfl, hb7⟩
                    have x7 := x6.later hb7
                    have s17 := s16.later hb7
                    have ml7 := ml6.later hb7
                    have hbz := Below.chain hb6 hb7
                    have hS7 := (⟨x7.c0, x7.c1, x7.c2⟩ : (fun W : World => W.cell? ⟨D, 0, none⟩ = some (Value.int .i64 T) ∧ W.cell? ⟨D, 1, none⟩ = some (Value.bool vo) ∧ W.cell? ⟨D, 2, none⟩ = some (Value.int .i64 vn)) _)
                    refine hK.out _ _ hS7 (fun _ => ?_)
                    clear hK K
                    refine take_at 11 (some 94) (.agg #[.int .i64 T, .bool fo, .int .i64 fn]) rfl rfl (by kernel_rfl) (by kernel_rfl) (by kernel_rfl) (fun _ _ _ h => h) (by rfl) (fun W hSw => by obtain ⟨q0, q1, q2⟩ := hSw; go_simp) hS7 ?_
                    simp only [Act.put, List.setIfInBounds_toArray, List.set_cons_zero, List.set_cons_succ]
                    have hbal := bal (Below.refl _ w7) (.cells #[.int .i64 T, .bool fo, .int .i64 fn] 32)
                    have x8 := x7.later hbal
                    have s18 := s17.later hbal
                    have ml8 := ml7.later hbal
                    have y8 := BoxS.new w7 (T, fo, fn)
                    have hb8 := Below.chain hbz hbal
                    have hsz : b1 < (w7.alloc (.cells #[.int .i64 T, .bool fo, .int .i64 fn] 32)).heap.size := s18.lt
                    have holds : ∀ b, (none : Option Addr) = some b → ∀ j u, (cellsS LM)[j]? = some u → (w7.alloc (.cells #[.int .i64 T, .bool fo, .int .i64 fn] 32)).cell? (b.add j) = some u := fun b e => by cases e
                    refine wpAnyH_ready (rs := [12]) (by kernel_rfl) (by simp) ?_
                    refine AllReadyH.cons rfl (fun K hK => ?_) AllReadyH.nil
                    go_simp
                    have hS8 := (⟨x8.c0, x8.c1, x8.c2⟩ : (fun W : World => W.cell? ⟨D, 0, none⟩ = some (Value.int .i64 T) ∧ W.cell? ⟨D, 1, none⟩ = some (Value.bool vo) ∧ W.cell? ⟨D, 2, none⟩ = some (Value.int .i64 vn)) _)
                    refine hK.out _ _ hS8 (fun _ => ?_)
                    clear hK K
                    refine wpAnyH_ready (rs := [13]) (by kernel_rfl) (by simp) ?_
                    refine AllReadyH.cons rfl (fun K hK => ?_) AllReadyH.nil
                    refine step_grows _ _ (some 96) 26 rfl rfl (by rfl) 32 i0 (sv s0) 3 24 Try.underlying26 hi hz0 hz1 hz2 zeroS (by decide) none 0 0 (cellsS LM) rfl hnone hlo holds ⟨w7.heap.size, 0, none⟩ 1 1 (cellsS [(T, fo, fn)]) rfl rfl (fun q u hu => y8.cells q u hu) (cellsS_one _) (by omega) (by unfold maxLen; omega) (by omega) ?_
                    intro v9 w9 ho9 hg9
                    have x9 := x8.kept hg9 (by simp)
                    have s19 := s18.kept hg9 (by simp)
                    have hS9 := (⟨x9.c0, x9.c1, x9.c2⟩ : (fun W : World => W.cell? ⟨D, 0, none⟩ = some (Value.int .i64 T) ∧ W.cell? ⟨D, 1, none⟩ = some (Value.bool vo) ∧ W.cell? ⟨D, 2, none⟩ = some (Value.int .i64 vn)) _)
                    refine hK.out _ _ hS9 (fun _ => ?_)
                    clear hK K
                    obtain ⟨ao9, n9, c9, rfl, ml9⟩ := Own.ml (Own.snoc (by rw [hll]; exact ho9)) b1 b1 hsz hsz
                    have hbe : Below w.heap.size w w9 := hb8.grown hg9 hb8.size (fun k hk => by cases hk)
                    refine take_at 14 (some 9) (.slice ao9 n9 c9) rfl rfl (by kernel_rfl) (by kernel_rfl) (by kernel_rfl) (fun _ _ _ h => h) (by rfl) (fun W hSw => by obtain ⟨q0, q1, q2⟩ := hSw; go_simp) hS9 ?_
                    simp only [Act.put, List.setIfInBounds_toArray, List.set_cons_zero, List.set_cons_succ]
                    refine wpAnyH_done (by kernel_rfl) ?_ _
                    refine NoPanic.normal ?_
                    clear hS0 hS7 hS8 hS9
                    go_wp2_with fail
                    go_meet
                    case rel => exact ⟨T, ao9, n9, c9, rfl, rfl, by rw [HE.out], by rw [HA.out, HE.out, if_pos rfl, HMN.out]; exact ml9, by rw [HA.out, HE.out, if_pos rfl]; exact HPS.out, s19, x9, hbe⟩
                  · obtain rfl : sp = none := (hne0 _ rfl).2.2
                    have hnone : (some (⟨vb, off, none⟩ : Addr)) = none → n2 = 0 ∧ n2 = 0 := fun e => by cases e
                    have hS0 : (fun W : World => W.cell? ⟨D, 0, none⟩ = some (Value.int .i64 T) ∧ W.cell? ⟨D, 1, none⟩ = some (Value.bool vo) ∧ W.cell? ⟨D, 2, none⟩ = some (Value.int .i64 vn)) _ := ⟨x6.c0, x6.c1, x6.c2⟩
                    refine wp_region_noPanic ?_
                    refine wp_region_held_drew (S := fun W : World => W.cell? ⟨D, 0, none⟩ = some (Value.int .i64 T) ∧ W.cell? ⟨D, 1, none⟩ = some (Value.bool vo) ∧ W.cell? ⟨D, 2, none⟩ = some (Value.int .i64 vn)) (by kernel_rfl) hS0 (fun _ => ?_)
                    refine take_at 0 (some 83) (.slice (some ⟨vb, off, none⟩) n2 c2) rfl rfl (by kernel_rfl) (by kernel_rfl) (by kernel_rfl) (fun _ _ _ h => h) (by rfl) (fun W hSw => by obtain ⟨q0, q1, q2⟩ := hSw; go_simp) hS0 ?_
                    simp only [Act.put, List.setIfInBounds_toArray, List.set_cons_zero, List.set_cons_succ]
                    refine take_at 1 (some 84) (.slice (some ⟨vb, off, none⟩) n2 c2) rfl rfl (by kernel_rfl) (by kernel_rfl) (by kernel_rfl) (fun _ _ _ h => h) (by rfl) (fun W hSw => by obtain ⟨q0, q1, q2⟩ := hSw; go_simp) hS0 ?_
                    simp only [Act.put, List.setIfInBounds_toArray, List.set_cons_zero, List.set_cons_succ]
                    refine take_at 2 (some 85) (.int .i64 n2) rfl rfl (by kernel_rfl) (by kernel_rfl) (by kernel_rfl) (fun _ _ _ h => h) (by rfl) (fun W hSw => by obtain ⟨q0, q1, q2⟩ := hSw; go_simp) hS0 ?_
                    simp only [Act.put, List.setIfInBounds_toArray, List.set_cons_zero, List.set_cons_succ]
                    refine take_at 3 (some 86) (.slice (some ⟨vb, off, none⟩) n2 c2) rfl rfl (by kernel_rfl) (by kernel_rfl) (by kernel_rfl) (fun _ _ _ h => h) (by rfl) (fun W hSw => by obtain ⟨q0, q1, q2⟩ := hSw; go_simp) hS0 ?_
                    simp only [Act.put, List.setIfInBounds_toArray, List.set_cons_zero, List.set_cons_succ]
                    refine take_at 4 (some 87) (.int .i64 n2) rfl rfl (by kernel_rfl) (by kernel_rfl) (by kernel_rfl) (fun _ _ _ h => h) (by rfl) (fun W hSw => by obtain ⟨q0, q1, q2⟩ := hSw; go_simp) hS0 ?_
                    simp only [Act.put, List.setIfInBounds_toArray, List.set_cons_zero, List.set_cons_succ]
                    refine take_at 5 (some 88) (.slice (some ⟨vb, off, none⟩) n2 n2) rfl rfl (by kernel_rfl) (by kernel_rfl) (by kernel_rfl) (fun _ _ _ h => h) (by rfl) (fun W hSw => by obtain ⟨q0, q1, q2⟩ := hSw; go_simp) hS0 ?_
                    simp only [Act.put, List.setIfInBounds_toArray, List.set_cons_zero, List.set_cons_succ]
                    refine take_at 6 (some 89) (.pointer (some ⟨D, 0, none⟩)) rfl rfl (by kernel_rfl) (by kernel_rfl) (by kernel_rfl) (fun _ _ _ h => h) (by rfl) (fun W hSw => by obtain ⟨q0, q1, q2⟩ := hSw; go_simp) hS0 ?_
                    simp only [Act.put, List.setIfInBounds_toArray, List.set_cons_zero, List.set_cons_succ]
                    refine take_at 7 (some 90) (.int .i64 T) rfl rfl (by kernel_rfl) (by kernel_rfl) (by kernel_rfl) (fun _ _ _ h => h) (by rfl) (fun W hSw => by obtain ⟨q0, q1, q2⟩ := hSw; go_simp) hS0 ?_
                    simp only [Act.put, List.setIfInBounds_toArray, List.set_cons_zero, List.set_cons_succ]
                    refine take_at 8 (some 91) (.pointer (some ⟨D, 1, none⟩)) rfl rfl (by kernel_rfl) (by kernel_rfl) (by kernel_rfl) (fun _ _ _ h => h) (by rfl) (fun W hSw => by obtain ⟨q0, q1, q2⟩ := hSw; go_simp) hS0 ?_
                    simp only [Act.put, List.setIfInBounds_toArray, List.set_cons_zero, List.set_cons_succ]
                    refine take_at 9 (some 92) (.agg #[.bool vo, .int .i64 vn]) rfl rfl (by kernel_rfl) (by kernel_rfl) (by kernel_rfl) (fun _ _ _ h => h) (by rfl) (fun W hSw => by obtain ⟨q0, q1, q2⟩ := hSw; go_simp) hS0 ?_
                    simp only [Act.put, List.setIfInBounds_toArray, List.set_cons_zero, List.set_cons_succ]
                    refine wpAnyH_ready (rs := [10]) (by kernel_rfl) (by simp) ?_
                    refine AllReadyH.cons rfl (fun K hK => ?_) AllReadyH.nil
                    go_simp
                    refine (hno _).mono ?_
                    rintro e w7 ⟨rfl, hb7⟩
                    have x7 := x6.later hb7
                    have s17 := s16.later hb7
                    have ml7 := ml6.later hb7
                    have hbz := Below.chain hb6 hb7
                    have hS7 := (⟨x7.c0, x7.c1, x7.c2⟩ : (fun W : World => W.cell? ⟨D, 0, none⟩ = some (Value.int .i64 T) ∧ W.cell? ⟨D, 1, none⟩ = some (Value.bool vo) ∧ W.cell? ⟨D, 2, none⟩ = some (Value.int .i64 vn)) _)
                    refine hK.out _ _ hS7 (fun _ => ?_)
                    clear hK K
                    refine take_at 11 (some 94) (.agg #[.int .i64 T, .bool fo, .int .i64 fn]) rfl rfl (by kernel_rfl) (by kernel_rfl) (by kernel_rfl) (fun _ _ _ h => h) (by rfl) (fun W hSw => by obtain ⟨q0, q1, q2⟩ := hSw; go_simp) hS7 ?_
                    simp only [Act.put, List.setIfInBounds_toArray, List.set_cons_zero, List.set_cons_succ]
                    have hbal := bal (Below.refl _ w7) (.cells #[.int .i64 T, .bool fo, .int .i64 fn] 32)
                    have x8 := x7.later hbal
                    have s18 := s17.later hbal
                    have ml8 := ml7.later hbal
                    have y8 := BoxS.new w7 (T, fo, fn)
                    have hb8 := Below.chain hbz hbal
                    have hsz : b1 < (w7.alloc (.cells #[.int .i64 T, .bool fo, .int .i64 fn] 32)).heap.size := s18.lt
                    have holds : ∀ b, (some (⟨vb, off, none⟩ : Addr)) = some b → ∀ j u, (cellsS LM)[j]? = some u → (w7.alloc (.cells #[.int .i64 T, .bool fo, .int .i64 fn] 32)).cell? (b.add j) = some u := fun b e => by
                      injection e with e
                      subst e
                      exact ml8.s.cells
                    refine wpAnyH_ready (rs := [12]) (by kernel_rfl) (by simp) ?_
                    refine AllReadyH.cons rfl (fun K hK => ?_) AllReadyH.nil
                    go_simp
                    have hS8 := (⟨x8.c0, x8.c1, x8.c2⟩ : (fun W : World => W.cell? ⟨D, 0, none⟩ = some (Value.int .i64 T) ∧ W.cell? ⟨D, 1, none⟩ = some (Value.bool vo) ∧ W.cell? ⟨D, 2, none⟩ = some (Value.int .i64 vn)) _)
                    refine hK.out _ _ hS8 (fun _ => ?_)
                    clear hK K
                    refine wpAnyH_ready (rs := [13]) (by kernel_rfl) (by simp) ?_
                    refine AllReadyH.cons rfl (fun K hK => ?_) AllReadyH.nil
                    refine step_grows _ _ (some 96) 26 rfl rfl (by rfl) 32 i0 (sv s0) 3 24 Try.underlying26 hi hz0 hz1 hz2 zeroS (by decide) (some ⟨vb, off, none⟩) n2 n2 (cellsS LM) rfl hnone hlo holds ⟨w7.heap.size, 0, none⟩ 1 1 (cellsS [(T, fo, fn)]) rfl rfl (fun q u hu => y8.cells q u hu) (cellsS_one _) (by omega) (by unfold maxLen; omega) (by omega) ?_
                    intro v9 w9 ho9 hg9
                    have x9 := x8.kept hg9 (by simp)
                    have s19 := s18.kept hg9 (by simp)
                    have hS9 := (⟨x9.c0, x9.c1, x9.c2⟩ : (fun W : World => W.cell? ⟨D, 0, none⟩ = some (Value.int .i64 T) ∧ W.cell? ⟨D, 1, none⟩ = some (Value.bool vo) ∧ W.cell? ⟨D, 2, none⟩ = some (Value.int .i64 vn)) _)
                    refine hK.out _ _ hS9 (fun _ => ?_)
                    clear hK K
                    obtain ⟨ao9, n9, c9, rfl, ml9⟩ := Own.ml (Own.snoc (by rw [hll]; exact ho9)) b1 b1 hsz hsz
                    have hbe : Below w.heap.size w w9 := hb8.grown hg9 hb8.size (fun k hk => by cases hk)
                    refine take_at 14 (some 9) (.slice ao9 n9 c9) rfl rfl (by kernel_rfl) (by kernel_rfl) (by kernel_rfl) (fun _ _ _ h => h) (by rfl) (fun W hSw => by obtain ⟨q0, q1, q2⟩ := hSw; go_simp) hS9 ?_
                    simp only [Act.put, List.setIfInBounds_toArray, List.set_cons_zero, List.set_cons_succ]
                    refine wpAnyH_done (by kernel_rfl) ?_ _
                    refine NoPanic.normal ?_
                    clear hS0 hS7 hS8 hS9
                    go_wp2_with fail
                    go_meet
                    case rel => exact ⟨T, ao9, n9, c9, rfl, rfl, by rw [HE.out], by rw [HA.out, HE.out, if_pos rfl, HMN.out]; exact ml9, by rw [HA.out, HE.out, if_pos rfl]; exact HPS.out, s19, x9, hbe⟩
            case rest =>
              obtain ⟨la', ao3, n3, c3, rfl, rfl, rfl, ml3, pv3, s13, xs3, hb3⟩ := hcut
              have d1 := fun W hW => add_st b1 _ _ _ (T, vo, vn) W (hW : St W b1 L k nw) hrV
              rw [show (((T, vo, vn) : Smp).1) = T from rfl] at d1
              clear s1' ml' hb' xs x0 x1 x2 hno HPS0 HA HMN
              generalize adL L k nw (T, vo, vn) = L' at *
              generalize adE L k nw T = er at *
              obtain ⟨x0, x1, x2, _, _, _⟩ := id xs3
              go_wp2_with fail
              refine (d1 _ s13).mono ?_
              rintro e w4 ⟨rfl, s14, hg⟩
              have ml4 := ml3.kept hg (Or.inr (Or.inl rfl))
              have hb4 := grown_above hb3 hg hb3.size hB1
              clear d1 s13 ml3 xs3 hb3 hg x0 x1 x2
              go_wp2_with fail
              go_meet
              case rel => exact ⟨nw, la', ao3, n3, c3, L', rfl, rfl, rfl, s14, ml4, pv3, hb4⟩
        case rest =>
          obtain ⟨nw', la', ao3, n3, c3, L', rfl, rfl, rfl, s13, ml3, pv3, hb3⟩ := hcut
          clear s1' ml' hb' xs pv u0' hD
          have hwf := s13.f
          have HRg : Hid (∀ s ∈ L', R64 s.2.2) := hwf.rg
          have HRm : Hid (∀ s ∈ mN L', R64 s.2.2) := mN_r64 hwf.rg
          have hl3 : (mN L').length = n3 := ml3.s.1
          have hl4 : L'.length = n3 := by rw [← mN_len]; exact hl3
          have hL100 : n3 ≤ 100 := by have := hwf.le; omega
          have g1 := inc_st b1 _ _ _ _ s13
          have g2 := fun W hW => inc_val ao3 n3 c3 (mN L') W hL100 (hW : Ms W ao3 n3 (mN L')) HRm.out
          have g3 := fun W hW => rate_st b1 L' k nw' W (hW : St W b1 L' k nw')
          have g4 := fun W => whole_any k W (by unfold R64; omega)
          have g5 := fun W => quo_vals (incP L') (fOf k) W (V.sum _) (V.norm _)
          have g6 := fun W hW => resets_st b1 L' k nw' W (hW : St W b1 L' k nw')
          have g7 := fun W hW => rresets_any ao3 n3 c3 (mN L') W hL100 (hW : Ms W ao3 n3 (mN L')) HRm.out
          rw [mN_inc HRg.out] at g2
          rw [mN_rs HRg.out] at g7
          have HLT : Hid (i < n) := hlt
          have en : Hid (wrap64 ((i : Int) + 1) = (i : Int) + 1) := nadd i (by omega)
          clear hwf HRg HRm hl3
          by_cases h2 : n3 < 2
          · rw [show incT L' = .tuple #[.agg #[.bool false, .int .i64 0], .bool false] by unfold incT; rw [if_pos (by omega)]] at g1
            rw [show rtT L' k = .tuple #[.agg #[.bool false, .int .i64 0], .bool false] by unfold rtT; rw [if_pos (by omega)]] at g3
            rw [if_pos h2] at g2
            clear g4 g5 h2 hl4
            generalize rsP L' = rp at *
            go_wp2_with fail
            refine g1.mono ?_
            rintro e w4 ⟨rfl, hbn⟩
            have hbl := bal (Below.refl _ w4) (.cells #[.bool false, .int .i64 0] 28)
            have xA := Box.new w4 false 0
            have s14 := (s13.later hbn).later hbl
            have ml4 := (ml3.later hbn).later hbl
            have hb4 := bal (Below.chain hb3 hbn) (.cells #[.bool false, .int .i64 0] 28)
            clear g1 s13 ml3 hb3 hbn hbl
            go_wp2_with fail
            generalize w4.alloc (.cells #[.bool false, .int .i64 0] 28) = w4a at *
            generalize w4.heap.size = A at *
            refine (g2 _ ml4.s).mono ?_
            rintro e w5 ⟨rfl, hbn⟩
            have hbl := bal (Below.refl _ w5) (.cells #[.bool false, .int .i64 0] 28)
            have xB := Box.new w5 false 0
            have xA5 := (xA.later hbn).later hbl
            have s15 := (s14.later hbn).later hbl
            have ml5 := (ml4.later hbn).later hbl
            have hb5 := bal (Below.chain hb4 hbn) (.cells #[.bool false, .int .i64 0] 28)
            clear g2 s14 ml4 hb4 hbn hbl xA
            go_wp2_with fail
            generalize w5.alloc (.cells #[.bool false, .int .i64 0] 28) = w5a at *
            generalize w5.heap.size = B at *
            refine (g3 _ s15).mono ?_
            rintro e w6 ⟨rfl, hbn⟩
            have hbl := bal (Below.refl _ w6) (.cells #[.bool false, .int .i64 0] 28)
            have xC := Box.new w6 false 0
            have xA6 := (xA5.later hbn).later hbl
            have xB6 := (xB.later hbn).later hbl
            have s16 := (s15.later hbn).later hbl
            have ml6 := (ml5.later hbn).later hbl
            have hb6 := bal (Below.chain hb5 hbn) (.cells #[.bool false, .int .i64 0] 28)
            clear g3 s15 ml5 hb5 hbn hbl xA5 xB
            go_wp2_with fail
            generalize w6.alloc (.cells #[.bool false, .int .i64 0] 28) = w6a at *
            generalize w6.heap.size = C at *
            have xAz : Box w6a.drew A false 0 := xA6.later (Below.refl _ _).drew
            have xBz : Box w6a.drew B false 0 := xB6.later (Below.refl _ _).drew
            have xCz : Box w6a.drew C false 0 := xC.later (Below.refl _ _).drew
            have s1z := s16.later (Below.refl _ w6a).drew
            have mlz := ml6.later (Below.refl _ w6a).drew
            have hbz := hb6.trans (Below.refl _ _).drew
            clear xA6 xB6 xC s16 ml6 hb6
            have hS0 : (fun W : World => Box W A false 0 ∧ Box W B false 0 ∧ Box W C false 0) _ := ⟨xAz, xBz, xCz⟩
            refine wp_region_noPanic ?_
            refine wp_region_held_drew (S := fun W : World => Box W A false 0 ∧ Box W B false 0 ∧ Box W C false 0) (by kernel_rfl) hS0 (fun _ => ?_)
            refine take_at 0 (some 140) (.bool false) rfl rfl (by kernel_rfl) (by kernel_rfl) (by kernel_rfl) (fun _ _ _ h => h) (by rfl) (fun W hSw => by obtain ⟨⟨q1, q2, _, _⟩, ⟨q3, q4, _, _⟩, ⟨q5, q6, _, _⟩⟩ := hSw; go_simp) hS0 ?_
            simp only [Act.put, List.setIfInBounds_toArray, List.set_cons_zero, List.set_cons_succ]
            refine take_at 1 (some 141) (.bool false) rfl rfl (by kernel_rfl) (by kernel_rfl) (by kernel_rfl) (fun _ _ _ h => h) (by rfl) (fun W hSw => by obtain ⟨⟨q1, q2, _, _⟩, ⟨q3, q4, _, _⟩, ⟨q5, q6, _, _⟩⟩ := hSw; go_simp) hS0 ?_
            simp only [Act.put, List.setIfInBounds_toArray, List.set_cons_zero, List.set_cons_succ]
            refine take_at 2 (some 142) (.bool false) rfl rfl (by kernel_rfl) (by kernel_rfl) (by kernel_rfl) (fun _ _ _ h => h) (by rfl) (fun W hSw => by obtain ⟨⟨q1, q2, _, _⟩, ⟨q3, q4, _, _⟩, ⟨q5, q6, _, _⟩⟩ := hSw; go_simp) hS0 ?_
            simp only [Act.put, List.setIfInBounds_toArray, List.set_cons_zero, List.set_cons_succ]
            refine take_at 3 (some 143) (.bool false) rfl rfl (by kernel_rfl) (by kernel_rfl) (by kernel_rfl) (fun _ _ _ h => h) (by rfl) (fun W hSw => by obtain ⟨⟨q1, q2, _, _⟩, ⟨q3, q4, _, _⟩, ⟨q5, q6, _, _⟩⟩ := hSw; go_simp) hS0 ?_
            simp only [Act.put, List.setIfInBounds_toArray, List.set_cons_zero, List.set_cons_succ]
            refine take_at 4 (some 144) (.bool false) rfl rfl (by kernel_rfl) (by kernel_rfl) (by kernel_rfl) (fun _ _ _ h => h) (by rfl) (fun W hSw => by obtain ⟨⟨q1, q2, _, _⟩, ⟨q3, q4, _, _⟩, ⟨q5, q6, _, _⟩⟩ := hSw; go_simp) hS0 ?_
            simp only [Act.put, List.setIfInBounds_toArray, List.set_cons_zero, List.set_cons_succ]
            refine take_at 5 (some 145) (.bool false) rfl rfl (by kernel_rfl) (by kernel_rfl) (by kernel_rfl) (fun _ _ _ h => h) (by rfl) (fun W hSw => by obtain ⟨⟨q1, q2, _, _⟩, ⟨q3, q4, _, _⟩, ⟨q5, q6, _, _⟩⟩ := hSw; go_simp) hS0 ?_
            simp only [Act.put, List.setIfInBounds_toArray, List.set_cons_zero, List.set_cons_succ]
            refine take_at 6 (some 146) (.bool false) rfl rfl (by kernel_rfl) (by kernel_rfl) (by kernel_rfl) (fun _ _ _ h => h) (by rfl) (fun W hSw => by obtain ⟨⟨q1, q2, _, _⟩, ⟨q3, q4, _, _⟩, ⟨q5, q6, _, _⟩⟩ := hSw; go_simp) hS0 ?_
            simp only [Act.put, List.setIfInBounds_toArray, List.set_cons_zero, List.set_cons_succ]
            refine take_at 7 (some 147) (.bool false) rfl rfl (by kernel_rfl) (by kernel_rfl) (by kernel_rfl) (fun _ _ _ h => h) (by rfl) (fun W hSw => by obtain ⟨⟨q1, q2, _, _⟩, ⟨q3, q4, _, _⟩, ⟨q5, q6, _, _⟩⟩ := hSw; go_simp) hS0 ?_
            simp only [Act.put, List.setIfInBounds_toArray, List.set_cons_zero, List.set_cons_succ]
            refine take_at 8 (some 148) (.bool false) rfl rfl (by kernel_rfl) (by kernel_rfl) (by kernel_rfl) (fun _ _ _ h => h) (by rfl) (fun W hSw => by obtain ⟨⟨q1, q2, _, _⟩, ⟨q3, q4, _, _⟩, ⟨q5, q6, _, _⟩⟩ := hSw; go_simp) hS0 ?_
            simp only [Act.put, List.setIfInBounds_toArray, List.set_cons_zero, List.set_cons_succ]
            refine take_at 9 (some 149) (.bool false) rfl rfl (by kernel_rfl) (by kernel_rfl) (by kernel_rfl) (fun _ _ _ h => h) (by rfl) (fun W hSw => by obtain ⟨⟨q1, q2, _, _⟩, ⟨q3, q4, _, _⟩, ⟨q5, q6, _, _⟩⟩ := hSw; go_simp) hS0 ?_
            simp only [Act.put, List.setIfInBounds_toArray, List.set_cons_zero, List.set_cons_succ]
            refine take_at 10 (some 150) (.bool false) rfl rfl (by kernel_rfl) (by kernel_rfl) (by kernel_rfl) (fun _ _ _ h => h) (by rfl) (fun W hSw => by obtain ⟨⟨q1, q2, _, _⟩, ⟨q3, q4, _, _⟩, ⟨q5, q6, _, _⟩⟩ := hSw; go_simp) hS0 ?_
            simp only [Act.put, List.setIfInBounds_toArray, List.set_cons_zero, List.set_cons_succ]
            refine skip_at 11 (some 151) rfl rfl (by kernel_rfl) (by kernel_rfl) (by kernel_rfl) (fun _ _ _ h => h) (by rfl) hS0 ?_
            simp only [Act.put, List.setIfInBounds_toArray, List.set_cons_zero, List.set_cons_succ]
            refine skip_at 12 (some 152) rfl rfl (by kernel_rfl) (by kernel_rfl) (by kernel_rfl) (fun _ _ _ h => h) (by rfl) hS0 ?_
            simp only [Act.put, List.setIfInBounds_toArray, List.set_cons_zero, List.set_cons_succ]
            refine skip_at 13 (some 153) rfl rfl (by kernel_rfl) (by kernel_rfl) (by kernel_rfl) (fun _ _ _ h => h) (by rfl) hS0 ?_
            simp only [Act.put, List.setIfInBounds_toArray, List.set_cons_zero, List.set_cons_succ]
            refine skip_at 14 (some 154) rfl rfl (by kernel_rfl) (by kernel_rfl) (by kernel_rfl) (fun _ _ _ h => h) (by rfl) hS0 ?_
            simp only [Act.put, List.setIfInBounds_toArray, List.set_cons_zero, List.set_cons_succ]
            refine skip_at 15 (some 155) rfl rfl (by kernel_rfl) (by kernel_rfl) (by kernel_rfl) (fun _ _ _ h => h) (by rfl) hS0 ?_
            simp only [Act.put, List.setIfInBounds_toArray, List.set_cons_zero, List.set_cons_succ]
            refine skip_at 16 (some 156) rfl rfl (by kernel_rfl) (by kernel_rfl) (by kernel_rfl) (fun _ _ _ h => h) (by rfl) hS0 ?_
            simp only [Act.put, List.setIfInBounds_toArray, List.set_cons_zero, List.set_cons_succ]
            refine skip_at 17 (some 157) rfl rfl (by kernel_rfl) (by kernel_rfl) (by kernel_rfl) (fun _ _ _ h => h) (by rfl) hS0 ?_
            simp only [Act.put, List.setIfInBounds_toArray, List.set_cons_zero, List.set_cons_succ]
            refine skip_at 18 (some 158) rfl rfl (by kernel_rfl) (by kernel_rfl) (by kernel_rfl) (fun _ _ _ h => h) (by rfl) hS0 ?_
            simp only [Act.put, List.setIfInBounds_toArray, List.set_cons_zero, List.set_cons_succ]
            refine skip_at 19 (some 159) rfl rfl (by kernel_rfl) (by kernel_rfl) (by kernel_rfl) (fun _ _ _ h => h) (by rfl) hS0 ?_
            simp only [Act.put, List.setIfInBounds_toArray, List.set_cons_zero, List.set_cons_succ]
            refine skip_at 20 (some 160) rfl rfl (by kernel_rfl) (by kernel_rfl) (by kernel_rfl) (fun _ _ _ h => h) (by rfl) hS0 ?_
            simp only [Act.put, List.setIfInBounds_toArray, List.set_cons_zero, List.set_cons_succ]
            refine skip_at 21 (some 161) rfl rfl (by kernel_rfl) (by kernel_rfl) (by kernel_rfl) (fun _ _ _ h => h) (by rfl) hS0 ?_
            simp only [Act.put, List.setIfInBounds_toArray, List.set_cons_zero, List.set_cons_succ]
            refine take_at 22 (some 162) (.bool false) rfl rfl (by kernel_rfl) (by kernel_rfl) (by kernel_rfl) (fun _ _ _ h => h) (by rfl) (fun W hSw => by obtain ⟨⟨q1, q2, _, _⟩, ⟨q3, q4, _, _⟩, ⟨q5, q6, _, _⟩⟩ := hSw; go_simp) hS0 ?_
            simp only [Act.put, List.setIfInBounds_toArray, List.set_cons_zero, List.set_cons_succ]
            refine take_at 23 (some 163) (.bool false) rfl rfl (by kernel_rfl) (by kernel_rfl) (by kernel_rfl) (fun _ _ _ h => h) (by rfl) (fun W hSw => by obtain ⟨⟨q1, q2, _, _⟩, ⟨q3, q4, _, _⟩, ⟨q5, q6, _, _⟩⟩ := hSw; go_simp) hS0 ?_
            simp only [Act.put, List.setIfInBounds_toArray, List.set_cons_zero, List.set_cons_succ]
            refine take_at 24 (some 164) (.bool false) rfl rfl (by kernel_rfl) (by kernel_rfl) (by kernel_rfl) (fun _ _ _ h => h) (by rfl) (fun W hSw => by obtain ⟨⟨q1, q2, _, _⟩, ⟨q3, q4, _, _⟩, ⟨q5, q6, _, _⟩⟩ := hSw; go_simp) hS0 ?_
            simp only [Act.put, List.setIfInBounds_toArray, List.set_cons_zero, List.set_cons_succ]
            refine take_at 25 (some 165) (.pointer (some ⟨b1, 0, none⟩)) rfl rfl (by kernel_rfl) (by kernel_rfl) (by kernel_rfl) (fun _ _ _ h => h) (by rfl) (fun W hSw => by obtain ⟨⟨q1, q2, _, _⟩, ⟨q3, q4, _, _⟩, ⟨q5, q6, _, _⟩⟩ := hSw; go_simp) hS0 ?_
            simp only [Act.put, List.setIfInBounds_toArray, List.set_cons_zero, List.set_cons_succ]
            refine take_at 27 (some 167) (.slice ao3 n3 c3) rfl rfl (by kernel_rfl) (by kernel_rfl) (by kernel_rfl) (fun _ _ _ h => h) (by rfl) (fun W hSw => by obtain ⟨⟨q1, q2, _, _⟩, ⟨q3, q4, _, _⟩, ⟨q5, q6, _, _⟩⟩ := hSw; go_simp) hS0 ?_
            simp only [Act.put, List.setIfInBounds_toArray, List.set_cons_zero, List.set_cons_succ]
            refine wpAnyH_ready (rs := [26]) (by kernel_rfl) (by simp) ?_
            refine AllReadyH.cons rfl (fun K hK => ?_) AllReadyH.nil
            go_simp
            refine (g6 _ s1z).mono ?_
            rintro e v3 ⟨rfl, hbn1⟩
            have xA1s := xAz.later hbn1
            have xB1s := xBz.later hbn1
            have xC1s := xCz.later hbn1
            have s11s := s1z.later hbn1
            have ml1s := mlz.later hbn1
            have hb1s := Below.chain hbz hbn1
            have hSs1 := (⟨xA1s, xB1s, xC1s⟩ : (fun W : World => Box W A false 0 ∧ Box W B false 0 ∧ Box W C false 0) v3)
            refine hK.out _ _ hSs1 (fun _ => ?_)
            clear hK K
            refine wpAnyH_ready (rs := [28]) (by kernel_rfl) (by simp) ?_
            refine AllReadyH.cons rfl (fun K hK => ?_) AllReadyH.nil
            go_simp
            refine (g7 _ ml1s.s).mono ?_
            rintro e v4 ⟨rfl, hbn2⟩
            have xA2s := xA1s.later hbn2
            have xB2s := xB1s.later hbn2
            have xC2s := xC1s.later hbn2
            have s12s := s11s.later hbn2
            have ml2s := ml1s.later hbn2
            have hb2s := Below.chain hb1s hbn2
            have hSs2 := (⟨xA2s, xB2s, xC2s⟩ : (fun W : World => Box W A false 0 ∧ Box W B false 0 ∧ Box W C false 0) v4)
            refine hK.out _ _ hSs2 (fun _ => ?_)
            clear hK K
            refine take_at 29 (some 169) (.bool false) rfl rfl (by kernel_rfl) (by kernel_rfl) (by kernel_rfl) (fun _ _ _ h => h) (by rfl) (fun W hSw => by go_simp) hSs2 ?_
            simp only [Act.put, List.setIfInBounds_toArray, List.set_cons_zero, List.set_cons_succ]
            refine take_at 30 (some 170) (.bool false) rfl rfl (by kernel_rfl) (by kernel_rfl) (by kernel_rfl) (fun _ _ _ h => h) (by rfl) (fun W hSw => by obtain ⟨⟨q1, q2, _, _⟩, ⟨q3, q4, _, _⟩, ⟨q5, q6, _, _⟩⟩ := hSw; go_simp) hSs2 ?_
            simp only [Act.put, List.setIfInBounds_toArray, List.set_cons_zero, List.set_cons_succ]
            refine wpAnyH_done (by kernel_rfl) ?_ _
            refine NoPanic.normal ?_
            clear k1 hn hi2 hB1 hL100 hdn hd
            have hfS := s12s
            have hfM := ml2s
            have hfB := hb2s
            go_wp2_with fail
            go_roundw
            case rel => exact ⟨i + 1, nw', la', ao3, n3, c3, L', HLT.out, by rw [en.out]; rfl, rfl, rfl, rfl, hfS, hfM, pv3, hfB⟩
            case measure => rw [en.out]; exact meas i n HLT.out
          · rw [show incT L' = .tuple #[.agg #[.bool (ov (incP L')), .int .i64 (nn (incP L'))], .bool true] by unfold incT; rw [if_neg (by omega)]] at g1
            rw [show rtT L' k = .tuple #[.agg #[.bool (ov (fDiv (incP L') (fOf k))), .int .i64 (nn (fDiv (incP L') (fOf k)))], .bool true] by unfold rtT rtP; rw [if_neg (by omega)]] at g3
            rw [if_neg h2] at g2
            clear h2 hl4
            generalize rsP L' = rp at *
            generalize ov (fDiv (incP L') (fOf k)) = qo at *
            generalize nn (fDiv (incP L') (fOf k)) = qn at *
            generalize ov (incP L') = io at *
            generalize nn (incP L') = im at *
            generalize ov (fOf k) = ko at *
            generalize nn (fOf k) = kn at *
            go_wp2_with fail
            refine g1.mono ?_
            rintro e w4 ⟨rfl, hbn⟩
            have hbl := bal (Below.refl _ w4) (.cells #[.bool io, .int .i64 im] 28)
            have xA := Box.new w4 io im
            have s14 := (s13.later hbn).later hbl
            have ml4 := (ml3.later hbn).later hbl
            have hb4 := bal (Below.chain hb3 hbn) (.cells #[.bool io, .int .i64 im] 28)
            clear g1 s13 ml3 hb3 hbn hbl
            go_wp2_with fail
            generalize w4.alloc (.cells #[.bool io, .int .i64 im] 28) = w4a at *
            generalize w4.heap.size = A at *
            refine (g2 _ ml4.s).mono ?_
            rintro e w5 ⟨rfl, hbn⟩
            have hbl := bal (Below.refl _ w5) (.cells #[.bool io, .int .i64 im] 28)
            have xB := Box.new w5 io im
            have xA5 := (xA.later hbn).later hbl
            have s15 := (s14.later hbn).later hbl
            have ml5 := (ml4.later hbn).later hbl
            have hb5 := bal (Below.chain hb4 hbn) (.cells #[.bool io, .int .i64 im] 28)
            clear g2 s14 ml4 hb4 hbn hbl xA
            go_wp2_with fail
            generalize w5.alloc (.cells #[.bool io, .int .i64 im] 28) = w5a at *
            generalize w5.heap.size = B at *
            refine (g3 _ s15).mono ?_
            rintro e w6 ⟨rfl, hbn⟩
            have hbl := bal (Below.refl _ w6) (.cells #[.bool qo, .int .i64 qn] 28)
            have xC := Box.new w6 qo qn
            have xA6 := (xA5.later hbn).later hbl
            have xB6 := (xB.later hbn).later hbl
            have s16 := (s15.later hbn).later hbl
            have ml6 := (ml5.later hbn).later hbl
            have hb6 := bal (Below.chain hb5 hbn) (.cells #[.bool qo, .int .i64 qn] 28)
            clear g3 s15 ml5 hb5 hbn hbl xA5 xB
            go_wp2_with fail
            generalize w6.alloc (.cells #[.bool qo, .int .i64 qn] 28) = w6a at *
            generalize w6.heap.size = C at *
            have xAz : Box w6a.drew A io im := xA6.later (Below.refl _ _).drew
            have xBz : Box w6a.drew B io im := xB6.later (Below.refl _ _).drew
            have xCz : Box w6a.drew C qo qn := xC.later (Below.refl _ _).drew
            have s1z := s16.later (Below.refl _ w6a).drew
            have mlz := ml6.later (Below.refl _ w6a).drew
            have hbz := hb6.trans (Below.refl _ _).drew
            clear xA6 xB6 xC s16 ml6 hb6
            have hS0 : (fun W : World => Box W A io im ∧ Box W B io im ∧ Box W C qo qn) _ := ⟨xAz, xBz, xCz⟩
            refine wp_region_noPanic ?_
            refine wp_region_held_drew (S := fun W : World => Box W A io im ∧ Box W B io im ∧ Box W C qo qn) (by kernel_rfl) hS0 (fun _ => ?_)
            refine take_at 0 (some 140) (.bool true) rfl rfl (by kernel_rfl) (by kernel_rfl) (by kernel_rfl) (fun _ _ _ h => h) (by rfl) (fun W hSw => by obtain ⟨⟨q1, q2, _, _⟩, ⟨q3, q4, _, _⟩, ⟨q5, q6, _, _⟩⟩ := hSw; go_simp) hS0 ?_
            simp only [Act.put, List.setIfInBounds_toArray, List.set_cons_zero, List.set_cons_succ]
            refine take_at 1 (some 141) (.bool true) rfl rfl (by kernel_rfl) (by kernel_rfl) (by kernel_rfl) (fun _ _ _ h => h) (by rfl) (fun W hSw => by obtain ⟨⟨q1, q2, _, _⟩, ⟨q3, q4, _, _⟩, ⟨q5, q6, _, _⟩⟩ := hSw; go_simp) hS0 ?_
            simp only [Act.put, List.setIfInBounds_toArray, List.set_cons_zero, List.set_cons_succ]
            refine take_at 2 (some 142) (.bool false) rfl rfl (by kernel_rfl) (by kernel_rfl) (by kernel_rfl) (fun _ _ _ h => h) (by rfl) (fun W hSw => by obtain ⟨⟨q1, q2, _, _⟩, ⟨q3, q4, _, _⟩, ⟨q5, q6, _, _⟩⟩ := hSw; go_simp) hS0 ?_
            simp only [Act.put, List.setIfInBounds_toArray, List.set_cons_zero, List.set_cons_succ]
            refine take_at 3 (some 143) (.bool false) rfl rfl (by kernel_rfl) (by kernel_rfl) (by kernel_rfl) (fun _ _ _ h => h) (by rfl) (fun W hSw => by obtain ⟨⟨q1, q2, _, _⟩, ⟨q3, q4, _, _⟩, ⟨q5, q6, _, _⟩⟩ := hSw; go_simp) hS0 ?_
            simp only [Act.put, List.setIfInBounds_toArray, List.set_cons_zero, List.set_cons_succ]
            refine take_at 4 (some 144) (.bool true) rfl rfl (by kernel_rfl) (by kernel_rfl) (by kernel_rfl) (fun _ _ _ h => h) (by rfl) (fun W hSw => by obtain ⟨⟨q1, q2, _, _⟩, ⟨q3, q4, _, _⟩, ⟨q5, q6, _, _⟩⟩ := hSw; go_simp) hS0 ?_
            simp only [Act.put, List.setIfInBounds_toArray, List.set_cons_zero, List.set_cons_succ]
            refine take_at 5 (some 145) (.bool true) rfl rfl (by kernel_rfl) (by kernel_rfl) (by kernel_rfl) (fun _ _ _ h => h) (by rfl) (fun W hSw => by obtain ⟨⟨q1, q2, _, _⟩, ⟨q3, q4, _, _⟩, ⟨q5, q6, _, _⟩⟩ := hSw; go_simp) hS0 ?_
            simp only [Act.put, List.setIfInBounds_toArray, List.set_cons_zero, List.set_cons_succ]
            refine take_at 6 (some 146) (.bool false) rfl rfl (by kernel_rfl) (by kernel_rfl) (by kernel_rfl) (fun _ _ _ h => h) (by rfl) (fun W hSw => by obtain ⟨⟨q1, q2, _, _⟩, ⟨q3, q4, _, _⟩, ⟨q5, q6, _, _⟩⟩ := hSw; go_simp) hS0 ?_
            simp only [Act.put, List.setIfInBounds_toArray, List.set_cons_zero, List.set_cons_succ]
            refine take_at 7 (some 147) (.bool false) rfl rfl (by kernel_rfl) (by kernel_rfl) (by kernel_rfl) (fun _ _ _ h => h) (by rfl) (fun W hSw => by obtain ⟨⟨q1, q2, _, _⟩, ⟨q3, q4, _, _⟩, ⟨q5, q6, _, _⟩⟩ := hSw; go_simp) hS0 ?_
            simp only [Act.put, List.setIfInBounds_toArray, List.set_cons_zero, List.set_cons_succ]
            refine take_at 8 (some 148) (.bool false) rfl rfl (by kernel_rfl) (by kernel_rfl) (by kernel_rfl) (fun _ _ _ h => h) (by rfl) (fun W hSw => by obtain ⟨⟨q1, q2, _, _⟩, ⟨q3, q4, _, _⟩, ⟨q5, q6, _, _⟩⟩ := hSw; go_simp) hS0 ?_
            simp only [Act.put, List.setIfInBounds_toArray, List.set_cons_zero, List.set_cons_succ]
            refine take_at 9 (some 149) (.bool true) rfl rfl (by kernel_rfl) (by kernel_rfl) (by kernel_rfl) (fun _ _ _ h => h) (by rfl) (fun W hSw => by obtain ⟨⟨q1, q2, _, _⟩, ⟨q3, q4, _, _⟩, ⟨q5, q6, _, _⟩⟩ := hSw; go_simp) hS0 ?_
            simp only [Act.put, List.setIfInBounds_toArray, List.set_cons_zero, List.set_cons_succ]
            refine take_at 10 (some 150) (.bool true) rfl rfl (by kernel_rfl) (by kernel_rfl) (by kernel_rfl) (fun _ _ _ h => h) (by rfl) (fun W hSw => by obtain ⟨⟨q1, q2, _, _⟩, ⟨q3, q4, _, _⟩, ⟨q5, q6, _, _⟩⟩ := hSw; go_simp) hS0 ?_
            simp only [Act.put, List.setIfInBounds_toArray, List.set_cons_zero, List.set_cons_succ]
            refine take_at 11 (some 151) (.agg #[.bool io, .int .i64 im]) rfl rfl (by kernel_rfl) (by kernel_rfl) (by kernel_rfl) (fun _ _ _ h => h) (by rfl) (fun W hSw => by obtain ⟨⟨q1, q2, _, _⟩, ⟨q3, q4, _, _⟩, ⟨q5, q6, _, _⟩⟩ := hSw; go_simp) hS0 ?_
            simp only [Act.put, List.setIfInBounds_toArray, List.set_cons_zero, List.set_cons_succ]
            refine take_at 12 (some 152) (.agg #[.bool io, .int .i64 im]) rfl rfl (by kernel_rfl) (by kernel_rfl) (by kernel_rfl) (fun _ _ _ h => h) (by rfl) (fun W hSw => by obtain ⟨⟨q1, q2, _, _⟩, ⟨q3, q4, _, _⟩, ⟨q5, q6, _, _⟩⟩ := hSw; go_simp) hS0 ?_
            simp only [Act.put, List.setIfInBounds_toArray, List.set_cons_zero, List.set_cons_succ]
            refine take_at 13 (some 153) (.bool false) rfl rfl (by kernel_rfl) (by kernel_rfl) (by kernel_rfl) (fun _ _ _ h => h) (by rfl) (fun W hSw => by exact run_neq _ _ (.tmp 151) (.tmp 152) io im rfl (by kernel_rfl) (by kernel_rfl) W) hS0 ?_
            simp only [Act.put, List.setIfInBounds_toArray, List.set_cons_zero, List.set_cons_succ]
            refine take_at 14 (some 154) (.bool false) rfl rfl (by kernel_rfl) (by kernel_rfl) (by kernel_rfl) (fun _ _ _ h => h) (by rfl) (fun W hSw => by obtain ⟨⟨q1, q2, _, _⟩, ⟨q3, q4, _, _⟩, ⟨q5, q6, _, _⟩⟩ := hSw; go_simp) hS0 ?_
            simp only [Act.put, List.setIfInBounds_toArray, List.set_cons_zero, List.set_cons_succ]
            refine take_at 15 (some 155) (.agg #[.bool qo, .int .i64 qn]) rfl rfl (by kernel_rfl) (by kernel_rfl) (by kernel_rfl) (fun _ _ _ h => h) (by rfl) (fun W hSw => by obtain ⟨⟨q1, q2, _, _⟩, ⟨q3, q4, _, _⟩, ⟨q5, q6, _, _⟩⟩ := hSw; go_simp) hS0 ?_
            simp only [Act.put, List.setIfInBounds_toArray, List.set_cons_zero, List.set_cons_succ]
            refine take_at 16 (some 156) (.agg #[.bool io, .int .i64 im]) rfl rfl (by kernel_rfl) (by kernel_rfl) (by kernel_rfl) (fun _ _ _ h => h) (by rfl) (fun W hSw => by obtain ⟨⟨q1, q2, _, _⟩, ⟨q3, q4, _, _⟩, ⟨q5, q6, _, _⟩⟩ := hSw; go_simp) hS0 ?_
            simp only [Act.put, List.setIfInBounds_toArray, List.set_cons_zero, List.set_cons_succ]
            refine take_at 17 (some 157) (.int .i64 k) rfl rfl (by kernel_rfl) (by kernel_rfl) (by kernel_rfl) (fun _ _ _ h => h) (by rfl) (fun W hSw => by obtain ⟨⟨q1, q2, _, _⟩, ⟨q3, q4, _, _⟩, ⟨q5, q6, _, _⟩⟩ := hSw; go_simp) hS0 ?_
            simp only [Act.put, List.setIfInBounds_toArray, List.set_cons_zero, List.set_cons_succ]
            refine wpAnyH_ready (rs := [18]) (by kernel_rfl) (by simp) ?_
            refine AllReadyH.cons rfl (fun K hK => ?_) AllReadyH.nil
            go_simp
            refine (g4 _).mono ?_
            rintro e v1 ⟨rfl, hbn1⟩
            have xA1s := xAz.later hbn1
            have xB1s := xBz.later hbn1
            have xC1s := xCz.later hbn1
            have s11s := s1z.later hbn1
            have ml1s := mlz.later hbn1
            have hb1s := Below.chain hbz hbn1
            have hSs1 := (⟨xA1s, xB1s, xC1s⟩ : (fun W : World => Box W A io im ∧ Box W B io im ∧ Box W C qo qn) v1)
            refine hK.out _ _ hSs1 (fun _ => ?_)
            clear hK K
            refine wpAnyH_ready (rs := [19]) (by kernel_rfl) (by simp) ?_
            refine AllReadyH.cons rfl (fun K hK => ?_) AllReadyH.nil
            go_simp
            refine (g5 _).mono ?_
            rintro e v2 ⟨rfl, hbn2⟩
            have xA2s := xA1s.later hbn2
            have xB2s := xB1s.later hbn2
            have xC2s := xC1s.later hbn2
            have s12s := s11s.later hbn2
            have ml2s := ml1s.later hbn2
            have hb2s := Below.chain hb1s hbn2
            have hSs2 := (⟨xA2s, xB2s, xC2s⟩ : (fun W : World => Box W A io im ∧ Box W B io im ∧ Box W C qo qn) v2)
            refine hK.out _ _ hSs2 (fun _ => ?_)
            clear hK K
            refine take_at 20 (some 160) (.bool false) rfl rfl (by kernel_rfl) (by kernel_rfl) (by kernel_rfl) (fun _ _ _ h => h) (by rfl) (fun W hSw => by exact run_neq _ _ (.tmp 155) (.tmp 159) qo qn rfl (by kernel_rfl) (by kernel_rfl) W) hSs2 ?_
            simp only [Act.put, List.setIfInBounds_toArray, List.set_cons_zero, List.set_cons_succ]
            refine take_at 21 (some 161) (.bool false) rfl rfl (by kernel_rfl) (by kernel_rfl) (by kernel_rfl) (fun _ _ _ h => h) (by rfl) (fun W hSw => by obtain ⟨⟨q1, q2, _, _⟩, ⟨q3, q4, _, _⟩, ⟨q5, q6, _, _⟩⟩ := hSw; go_simp) hSs2 ?_
            simp only [Act.put, List.setIfInBounds_toArray, List.set_cons_zero, List.set_cons_succ]
            refine take_at 22 (some 162) (.bool false) rfl rfl (by kernel_rfl) (by kernel_rfl) (by kernel_rfl) (fun _ _ _ h => h) (by rfl) (fun W hSw => by obtain ⟨⟨q1, q2, _, _⟩, ⟨q3, q4, _, _⟩, ⟨q5, q6, _, _⟩⟩ := hSw; go_simp) hSs2 ?_
            simp only [Act.put, List.setIfInBounds_toArray, List.set_cons_zero, List.set_cons_succ]
            refine take_at 23 (some 163) (.bool false) rfl rfl (by kernel_rfl) (by kernel_rfl) (by kernel_rfl) (fun _ _ _ h => h) (by rfl) (fun W hSw => by obtain ⟨⟨q1, q2, _, _⟩, ⟨q3, q4, _, _⟩, ⟨q5, q6, _, _⟩⟩ := hSw; go_simp) hSs2 ?_
            simp only [Act.put, List.setIfInBounds_toArray, List.set_cons_zero, List.set_cons_succ]
            refine take_at 24 (some 164) (.bool false) rfl rfl (by kernel_rfl) (by kernel_rfl) (by kernel_rfl) (fun _ _ _ h => h) (by rfl) (fun W hSw => by obtain ⟨⟨q1, q2, _, _⟩, ⟨q3, q4, _, _⟩, ⟨q5, q6, _, _⟩⟩ := hSw; go_simp) hSs2 ?_
            simp only [Act.put, List.setIfInBounds_toArray, List.set_cons_zero, List.set_cons_succ]
            refine take_at 25 (some 165) (.pointer (some ⟨b1, 0, none⟩)) rfl rfl (by kernel_rfl) (by kernel_rfl) (by kernel_rfl) (fun _ _ _ h => h) (by rfl) (fun W hSw => by obtain ⟨⟨q1, q2, _, _⟩, ⟨q3, q4, _, _⟩, ⟨q5, q6, _, _⟩⟩ := hSw; go_simp) hSs2 ?_
            simp only [Act.put, List.setIfInBounds_toArray, List.set_cons_zero, List.set_cons_succ]
            refine take_at 27 (some 167) (.slice ao3 n3 c3) rfl rfl (by kernel_rfl) (by kernel_rfl) (by kernel_rfl) (fun _ _ _ h => h) (by rfl) (fun W hSw => by obtain ⟨⟨q1, q2, _, _⟩, ⟨q3, q4, _, _⟩, ⟨q5, q6, _, _⟩⟩ := hSw; go_simp) hSs2 ?_
            simp only [Act.put, List.setIfInBounds_toArray, List.set_cons_zero, List.set_cons_succ]
            refine wpAnyH_ready (rs := [26]) (by kernel_rfl) (by simp) ?_
            refine AllReadyH.cons rfl (fun K hK => ?_) AllReadyH.nil
            go_simp
            refine (g6 _ s12s).mono ?_
            rintro e v3 ⟨rfl, hbn3⟩
            have xA3s := xA2s.later hbn3
            have xB3s := xB2s.later hbn3
            have xC3s := xC2s.later hbn3
            have s13s := s12s.later hbn3
            have ml3s := ml2s.later hbn3
            have hb3s := Below.chain hb2s hbn3
            have hSs3 := (⟨xA3s, xB3s, xC3s⟩ : (fun W : World => Box W A io im ∧ Box W B io im ∧ Box W C qo qn) v3)
            refine hK.out _ _ hSs3 (fun _ => ?_)
            clear hK K
            refine wpAnyH_ready (rs := [28]) (by kernel_rfl) (by simp) ?_
            refine AllReadyH.cons rfl (fun K hK => ?_) AllReadyH.nil
            go_simp
            refine (g7 _ ml3s.s).mono ?_
            rintro e v4 ⟨rfl, hbn4⟩
            have xA4s := xA3s.later hbn4
            have xB4s := xB3s.later hbn4
            have xC4s := xC3s.later hbn4
            have s14s := s13s.later hbn4
            have ml4s := ml3s.later hbn4
            have hb4s := Below.chain hb3s hbn4
            have hSs4 := (⟨xA4s, xB4s, xC4s⟩ : (fun W : World => Box W A io im ∧ Box W B io im ∧ Box W C qo qn) v4)
            refine hK.out _ _ hSs4 (fun _ => ?_)
            clear hK K
            refine take_at 29 (some 169) (.bool false) rfl rfl (by kernel_rfl) (by kernel_rfl) (by kernel_rfl) (fun _ _ _ h => h) (by rfl) (fun W hSw => by go_simp) hSs4 ?_
            simp only [Act.put, List.setIfInBounds_toArray, List.set_cons_zero, List.set_cons_succ]
            refine take_at 30 (some 170) (.bool false) rfl rfl (by kernel_rfl) (by kernel_rfl) (by kernel_rfl) (fun _ _ _ h => h) (by rfl) (fun W hSw => by obtain ⟨⟨q1, q2, _, _⟩, ⟨q3, q4, _, _⟩, ⟨q5, q6, _, _⟩⟩ := hSw; go_simp) hSs4 ?_
            simp only [Act.put, List.setIfInBounds_toArray, List.set_cons_zero, List.set_cons_succ]
            refine wpAnyH_done (by kernel_rfl) ?_ _
            refine NoPanic.normal ?_
            clear k1 hn hi2 hB1 hL100 hdn hd
            have hfS := s14s
            have hfM := ml4s
            have hfB := hb4s
            go_wp2_with fail
            go_roundw
            case rel => exact ⟨i + 1, nw', la', ao3, n3, c3, L', HLT.out, by rw [en.out]; rfl, rfl, rfl, rfl, hfS, hfM, pv3, hfB⟩
            case measure => rw [en.out]; exact meas i n HLT.out
      · have hd : decide ((i : Int) < (n : Int)) = false := decide_eq_false (by omega)
        go_wp2
        go_ret
        exact ⟨rfl, hb⟩
  · have hdn : decide ((150 : Int) < (n : Int)) = true := decide_eq_true (by omega)
    clear hs hl
    go_enter Try.func3, Try.ntmps3
    go_wp2_with fail
    refine (known_any _).mono ?_
    rintro e w1 ⟨rfl, hb1⟩
    go_wp2
    go_ret
    exact ⟨rfl, hb1⟩
end Go.Proofs.Ythcakiibkocheaa
