/- Of: what samples rose by, whatever they are. -/
import Derived.Test.YthcakiibkocheaaCRise
import Derived.Test.YthcakiibkocheaaSum
import Derived.OwnWalk
namespace Go.Proofs.Ythcakiibkocheaa
open Go.RowKit

set_option maxHeartbeats 8000000 in
theorem of_row (ao : Option Addr) (n cap : Nat) (l : List Smp) (w : World) (hn : n ≤ 100) (hs : Ms w ao n l) (hl : ∀ s ∈ l, R64 s.2.2) :
    Calls Try.prog 20 #[.slice ao n cap] w fun e w' => e = .returned (if n < 2 then .tuple #[.agg #[.bool false, .int .i64 0], .bool false] else .tuple #[.agg #[.bool (ov (incP l)), .int .i64 (nn (incP l))], .bool true]) ∧ Below w.heap.size w w' := by
  obtain ⟨i0, hi, hz0, hz1, hz2⟩ := infoN_parts
  have hb0 := bal (Below.refl _ w) (.cells #[.bool false, .int .i64 0] 28)
  have hx0 := Box.new w false 0
  by_cases h2 : n < 2
  · rw [if_pos h2]
    have d2 : decide ((n : Int) < 2) = true := decide_eq_true (by omega)
    obtain ⟨c0, c1, g0, g1⟩ := id hx0
    obtain ⟨p0, p1, _, _⟩ := hx0.put (p := false) (m := 0)
    go_enter Try.func20, Try.ntmps20
    go_wp2
    exact bodyPost_ret (v := .tuple #[.agg #[.bool false, .int .i64 0], .bool false]) (by simp [results, Try.results20, go_sem]) rfl ⟨rfl, by first | exact put2 hb0 (Nat.le_refl _) _ _ | exact hb0⟩
  · rw [if_neg h2]
    have d2 : decide ((n : Int) < 2) = false := decide_eq_false (by omega)
    obtain ⟨hla, hca⟩ := hs
    have HA : Hid (l.length = n) := hla
    obtain ⟨b, off, rfl, hc⟩ := hca (by omega)
    have HC : Hid (∀ W, Below w.heap.size w W → ∀ j, j < n → W.cell? ⟨b, off + j * 3 + 1, none⟩ = some (.bool (l.getD j s0).2.1) ∧ W.cell? ⟨b, off + j * 3 + 2, none⟩ = some (.int .i64 (l.getD j s0).2.2)) := by
      intro W hW j hj
      obtain ⟨c0, c1, c2⟩ := hc j hj
      exact ⟨(hW.cell (World.block_lt_of_cell? _ _ c1)).trans c1, (hW.cell (World.block_lt_of_cell? _ _ c2)).trans c2⟩
    have HRD : Hid (∀ p, p + 1 ≤ n → ∀ x ∈ dls l p, R64 x.2) := fun p hp => dls_r64 l hl p (by rw [HA.out]; exact hp)
    have HIP : Hid (incP l = fSum (cnts (dls l (n - 1)))) := by rw [← HA.out]; rfl
    have HR : Hid (∀ j, j < n → R64 (l.getD j s0).2.2) := fun j hj => hl _ (getD_memS (by rw [HA.out]; exact hj))
    clear hla hca hc hl
    obtain ⟨m, hm⟩ : ∃ m, m + 1 = n := ⟨n - 1, by omega⟩
    have em : wrap64 ((n : Int) - 1) = (m : Int) := by unfold wrap64; omega
    have em2 : (n : Int) - 1 = (m : Int) := by omega
    have EM : Hid (m + 1 = n) := hm
    have hm100 : m ≤ 100 := by omega
    clear hm
    go_enter Try.func20, Try.ntmps20
    go_wp2_with (at_make; refine wpList_make_own _ rfl _ _ 60 rfl (w.heap.size + 1) 28 i0 (.agg #[.bool false, .int .i64 0]) 2 Try.underlying60 hi hz0 hz1 _ _ _ m rfl rfl (by first | rfl | omega) ?b2 ?b3 ?b4 ?_)
    case b2 => rw [hz2]; omega
    case b3 => unfold maxLen; omega
    case b4 => simp
    intro w0 hown0 hgr0
    have hX0 : Box w0 w.heap.size false 0 := hx0.kept hgr0 (by simp)
    have hbw0 : Below w.heap.size w w0 := hb0.grown hgr0 hb0.size (fun k h => by cases h)
    go_wp2
    go_loopw [5, 4] (fun t v wr => ∃ (p i : Nat) (D : List (Bool × Int)) (vd : Value), Hid (p + 1 = i ∧ i ≤ n ∧ D = dls l p) ∧ t = .int .i64 i ∧ vd = v ∧ OwnN wr (w.heap.size + 1) vd D ∧ Box wr w.heap.size false 0 ∧ Below w.heap.size w wr) (fun t _ _ => n - (intOf t).toNat)
    case atStart => exact ⟨0, 1, [], _, ⟨rfl, by omega, rfl⟩, rfl, rfl, by first | exact hown0 | simpa using hown0, hX0, hbw0⟩
    case round =>
      obtain ⟨p, i, D, vd, HP, rfl, hvd, ho, hX, hb⟩ := hrel
      subst hvd
      obtain ⟨hpi, hin, hDe⟩ := HP.out
      have hDl : D.length = p := by rw [hDe, dls_len]
      clear hDe
      by_cases hlt : i < n
      · have hd : decide ((i : Int) < (n : Int)) = true := decide_eq_true (by omega)
        have hpn : p < n := by omega
        have EP := inum i n p hpi hlt hn
        have HZ : Hid (∀ W, Below w.heap.size w W → W.cell? ⟨b, off + i * 3 + 1, none⟩ = some (.bool (l.getD i s0).2.1) ∧ W.cell? ⟨b, off + i * 3 + 2, none⟩ = some (.int .i64 (l.getD i s0).2.2) ∧ W.cell? ⟨b, off + p * 3 + 1, none⟩ = some (.bool (l.getD p s0).2.1) ∧ W.cell? ⟨b, off + p * 3 + 2, none⟩ = some (.int .i64 (l.getD p s0).2.2)) :=
          fun W hW => ⟨(HC.out W hW i hlt).1, (HC.out W hW i hlt).2, (HC.out W hW p hpn).1, (HC.out W hW p hpn).2⟩
        have HD1 : Hid (D ++ [incN (l.getD p s0).2 (l.getD i s0).2] = dls l i) := by
          show _ = _
          rw [HP.out.2.2, ← hpi, dls_snoc]
        have hr1 := HR.out i hlt
        have hr2 := HR.out p hpn
        have hbd := hb.trans (Below.refl _ _).drew
        have hod := ho.later (Below.refl _ wr).drew
        have hXd := hX.later (Below.refl _ wr).drew
        obtain ⟨z0, z1, z2, z3⟩ := HZ.out _ hbd
        generalize l.getD i s0 = s at *
        generalize l.getD p s0 = q at *
        obtain ⟨s0', s1, s2⟩ := s
        obtain ⟨t0, t1, t2⟩ := q
        dsimp only at *
        have hri := fun W => rise_any t1 s1 t2 s2 W hr2 hr1
        generalize hfx : incN (t1, t2) (s1, s2) = fx at *
        obtain ⟨fo, fn⟩ := fx
        dsimp only at *
        clear hfx
        have hmx : n - (i + 1) < n - i := by omega
        have hi1 : i + 1 ≤ n := hlt
        have hDm : D.length + 1 ≤ 101 := by omega
        clear hDl hpi hin
        go_wp2_with fail
        have hS0 : (fun W : World => W.cell? ⟨b, off + i * 3 + 1, none⟩ = some (Value.bool s1) ∧ W.cell? ⟨b, off + i * 3 + 2, none⟩ = some (Value.int .i64 s2) ∧ W.cell? ⟨b, off + p * 3 + 1, none⟩ = some (Value.bool t1) ∧ W.cell? ⟨b, off + p * 3 + 2, none⟩ = some (Value.int .i64 t2)) _ := ⟨z0, z1, z2, z3⟩
        refine wp_region_noPanic ?_
        refine wp_region_held_drew (S := fun W : World => W.cell? ⟨b, off + i * 3 + 1, none⟩ = some (Value.bool s1) ∧ W.cell? ⟨b, off + i * 3 + 2, none⟩ = some (Value.int .i64 s2) ∧ W.cell? ⟨b, off + p * 3 + 1, none⟩ = some (Value.bool t1) ∧ W.cell? ⟨b, off + p * 3 + 2, none⟩ = some (Value.int .i64 t2)) (by kernel_rfl) hS0 (fun _ => ?_)
        refine take_at 0 (some 20) (vd) rfl rfl (by kernel_rfl) (by kernel_rfl) (by kernel_rfl) (fun _ _ _ h => h) (by rfl) (fun W hSw => by obtain ⟨q0, q1, q2, q3⟩ := hSw; go_simp <;> exact EP.out) hS0 ?_
        simp only [Act.put, List.setIfInBounds_toArray, List.set_cons_zero, List.set_cons_succ]
        refine take_at 1 (some 21) (.slice (some ⟨b, off, none⟩) n cap) rfl rfl (by kernel_rfl) (by kernel_rfl) (by kernel_rfl) (fun _ _ _ h => h) (by rfl) (fun W hSw => by obtain ⟨q0, q1, q2, q3⟩ := hSw; go_simp <;> exact EP.out) hS0 ?_
        simp only [Act.put, List.setIfInBounds_toArray, List.set_cons_zero, List.set_cons_succ]
        refine take_at 2 (some 22) (.int .i64 i) rfl rfl (by kernel_rfl) (by kernel_rfl) (by kernel_rfl) (fun _ _ _ h => h) (by rfl) (fun W hSw => by obtain ⟨q0, q1, q2, q3⟩ := hSw; go_simp <;> exact EP.out) hS0 ?_
        simp only [Act.put, List.setIfInBounds_toArray, List.set_cons_zero, List.set_cons_succ]
        refine take_at 3 (some 23) (.int .i64 p) rfl rfl (by kernel_rfl) (by kernel_rfl) (by kernel_rfl) (fun _ _ _ h => h) (by rfl) (fun W hSw => by obtain ⟨q0, q1, q2, q3⟩ := hSw; go_simp <;> exact EP.out) hS0 ?_
        simp only [Act.put, List.setIfInBounds_toArray, List.set_cons_zero, List.set_cons_succ]
        refine take_at 4 (some 24) (.pointer (some ⟨b, off + p * 3, none⟩)) rfl rfl (by kernel_rfl) (by kernel_rfl) (by kernel_rfl) (fun _ _ _ h => h) (by rfl) (fun W hSw => by obtain ⟨q0, q1, q2, q3⟩ := hSw; go_simp <;> exact EP.out) hS0 ?_
        simp only [Act.put, List.setIfInBounds_toArray, List.set_cons_zero, List.set_cons_succ]
        refine take_at 5 (some 25) (.pointer (some ⟨b, off + p * 3 + 1, none⟩)) rfl rfl (by kernel_rfl) (by kernel_rfl) (by kernel_rfl) (fun _ _ _ h => h) (by rfl) (fun W hSw => by obtain ⟨q0, q1, q2, q3⟩ := hSw; go_simp <;> exact EP.out) hS0 ?_
        simp only [Act.put, List.setIfInBounds_toArray, List.set_cons_zero, List.set_cons_succ]
        refine take_at 6 (some 26) (.agg #[.bool t1, .int .i64 t2]) rfl rfl (by kernel_rfl) (by kernel_rfl) (by kernel_rfl) (fun _ _ _ h => h) (by rfl) (fun W hSw => by obtain ⟨q0, q1, q2, q3⟩ := hSw; go_simp <;> exact EP.out) hS0 ?_
        simp only [Act.put, List.setIfInBounds_toArray, List.set_cons_zero, List.set_cons_succ]
        refine take_at 7 (some 27) (.slice (some ⟨b, off, none⟩) n cap) rfl rfl (by kernel_rfl) (by kernel_rfl) (by kernel_rfl) (fun _ _ _ h => h) (by rfl) (fun W hSw => by obtain ⟨q0, q1, q2, q3⟩ := hSw; go_simp <;> exact EP.out) hS0 ?_
        simp only [Act.put, List.setIfInBounds_toArray, List.set_cons_zero, List.set_cons_succ]
        refine take_at 8 (some 28) (.int .i64 i) rfl rfl (by kernel_rfl) (by kernel_rfl) (by kernel_rfl) (fun _ _ _ h => h) (by rfl) (fun W hSw => by obtain ⟨q0, q1, q2, q3⟩ := hSw; go_simp <;> exact EP.out) hS0 ?_
        simp only [Act.put, List.setIfInBounds_toArray, List.set_cons_zero, List.set_cons_succ]
        refine take_at 9 (some 29) (.pointer (some ⟨b, off + i * 3, none⟩)) rfl rfl (by kernel_rfl) (by kernel_rfl) (by kernel_rfl) (fun _ _ _ h => h) (by rfl) (fun W hSw => by obtain ⟨q0, q1, q2, q3⟩ := hSw; go_simp <;> exact EP.out) hS0 ?_
        simp only [Act.put, List.setIfInBounds_toArray, List.set_cons_zero, List.set_cons_succ]
        refine take_at 10 (some 30) (.pointer (some ⟨b, off + i * 3 + 1, none⟩)) rfl rfl (by kernel_rfl) (by kernel_rfl) (by kernel_rfl) (fun _ _ _ h => h) (by rfl) (fun W hSw => by obtain ⟨q0, q1, q2, q3⟩ := hSw; go_simp <;> exact EP.out) hS0 ?_
        simp only [Act.put, List.setIfInBounds_toArray, List.set_cons_zero, List.set_cons_succ]
        refine take_at 11 (some 31) (.agg #[.bool s1, .int .i64 s2]) rfl rfl (by kernel_rfl) (by kernel_rfl) (by kernel_rfl) (fun _ _ _ h => h) (by rfl) (fun W hSw => by obtain ⟨q0, q1, q2, q3⟩ := hSw; go_simp <;> exact EP.out) hS0 ?_
        simp only [Act.put, List.setIfInBounds_toArray, List.set_cons_zero, List.set_cons_succ]
        refine wpAnyH_ready (rs := [12]) (by kernel_rfl) (by simp) ?_
        refine AllReadyH.cons rfl (fun K hK => ?_) AllReadyH.nil
        go_simp
        refine (hri _).mono ?_
        rintro e w2 ⟨rfl, hb2⟩
        have hb2c := Below.chain hbd hb2
        obtain ⟨y0, y1, y2, y3⟩ := HZ.out _ hb2c
        have hS2 := (⟨y0, y1, y2, y3⟩ : (fun W : World => W.cell? ⟨b, off + i * 3 + 1, none⟩ = some (Value.bool s1) ∧ W.cell? ⟨b, off + i * 3 + 2, none⟩ = some (Value.int .i64 s2) ∧ W.cell? ⟨b, off + p * 3 + 1, none⟩ = some (Value.bool t1) ∧ W.cell? ⟨b, off + p * 3 + 2, none⟩ = some (Value.int .i64 t2)) w2)
        refine hK.out _ _ hS2 (fun _ => ?_)
        clear hK K
        have hx3 := Box.new w2 fo fn
        have hb3 := bal hb2c (.cells #[.bool fo, .int .i64 fn] 28)
        have ho3 := (hod.later hb2).later (bal (Below.refl _ _) (.cells #[.bool fo, .int .i64 fn] 28))
        have hX3 := (hXd.later hb2).later (bal (Below.refl _ _) (.cells #[.bool fo, .int .i64 fn] 28))
        obtain ⟨u0, u1, u2, u3⟩ := HZ.out _ hb3
        refine wpAnyH_ready (rs := [13]) (by kernel_rfl) (by simp) ?_
        refine AllReadyH.cons rfl (fun K hK => ?_) AllReadyH.nil
        go_simp
        have hS3 := (⟨u0, u1, u2, u3⟩ : (fun W : World => W.cell? ⟨b, off + i * 3 + 1, none⟩ = some (Value.bool s1) ∧ W.cell? ⟨b, off + i * 3 + 2, none⟩ = some (Value.int .i64 s2) ∧ W.cell? ⟨b, off + p * 3 + 1, none⟩ = some (Value.bool t1) ∧ W.cell? ⟨b, off + p * 3 + 2, none⟩ = some (Value.int .i64 t2)) (w2.alloc (.cells #[.bool fo, .int .i64 fn] 28)))
        refine hK.out _ _ hS3 (fun _ => ?_)
        clear hK K
        have hsz : w.heap.size + 1 ≤ (w2.alloc (.cells #[.bool fo, .int .i64 fn] 28)).heap.size := by have := hX3.lt; omega
        refine wpAnyH_ready (rs := [14]) (by kernel_rfl) (by simp) ?_
        refine AllReadyH.cons rfl (fun K hK => ?_) AllReadyH.nil
        refine step_append _ _ (some 34) 60 rfl rfl (by rfl) (w.heap.size + 1) 28 i0 (.agg #[.bool false, .int .i64 0]) 2 16 Try.underlying60 hi hz0 hz1 hz2 zeroN (by decide) vd _ _ rfl ho3 ⟨w2.heap.size, 0, none⟩ 1 1 (cellsN [(fo, fn)]) rfl rfl (fun q u hu => Box.cellsN (x := (fo, fn)) hx3 q u hu) (cellsN_one _) (by unfold maxLen; omega) (by omega) hsz ?_
        intro v4 w4 ho4 hg4
        have hX4 := hX3.kept hg4 (fun e => by have := (World.ownsRow.lt ho3 _ e.symm).1; omega)
        have hb4 := hb3.grown hg4 hb3.size (fun k hk => by have := (World.ownsRow.lt ho3 k hk).1; omega)
        obtain ⟨u0, u1, u2, u3⟩ := HZ.out _ hb4
        have hS4 := (⟨u0, u1, u2, u3⟩ : (fun W : World => W.cell? ⟨b, off + i * 3 + 1, none⟩ = some (Value.bool s1) ∧ W.cell? ⟨b, off + i * 3 + 2, none⟩ = some (Value.int .i64 s2) ∧ W.cell? ⟨b, off + p * 3 + 1, none⟩ = some (Value.bool t1) ∧ W.cell? ⟨b, off + p * 3 + 2, none⟩ = some (Value.int .i64 t2)) w4)
        refine hK.out _ _ hS4 (fun _ => ?_)
        clear hK K
        refine take_at 15 (some 4) (v4) rfl rfl (by kernel_rfl) (by kernel_rfl) (by kernel_rfl) (fun _ _ _ h => h) (by rfl) (fun W hSw => by obtain ⟨q0, q1, q2, q3⟩ := hSw; go_simp <;> exact EP.out) hS4 ?_
        simp only [Act.put, List.setIfInBounds_toArray, List.set_cons_zero, List.set_cons_succ]
        refine wpAnyH_done (by kernel_rfl) ?_ _
        refine NoPanic.normal ?_
        go_wp2
        go_roundw
        case rel => exact ⟨i, i + 1, _, _, ⟨rfl, hi1, HD1.out⟩, by go_num, rfl, OwnN.snoc ho4, hX4, hb4⟩
        case measure => simp [intOf]; omega
      · have hd : decide ((i : Int) < (n : Int)) = false := decide_eq_false (by omega)
        obtain rfl : i = n := by omega
        have hDr := HRD.out p (by omega)
        rw [← HP.out.2.2] at hDr
        have HIQ : Hid (incP l = fSum (cnts D)) := by show _ = _; rw [HIP.out, HP.out.2.2, show i - 1 = p by omega]
        obtain ⟨ao, cp, rfl, hns⟩ := ho.slice
        have hsu := fun W hW => sum_any ao D.length cp D W (by omega) hW hDr
        have HOV : Hid (ov (incP l) = ov (fSum (cnts D)) ∧ nn (incP l) = nn (fSum (cnts D))) := by rw [HIQ.out]; exact ⟨rfl, rfl⟩
        generalize ov (fSum (cnts D)) = fo at *
        generalize nn (fSum (cnts D)) = fn at *
        generalize D.length = dn at *
        clear hDl hpi hin HP
        go_wp2_with fail
        refine (hsu _ hns).mono ?_
        rintro e w1 ⟨rfl, hb1⟩
        have hx1 := hX.later hb1
        obtain ⟨c0, c1, g0, g1⟩ := id hx1
        obtain ⟨p0, p1, _, _⟩ := hx1.put (p := fo) (m := fn)
        go_wp2
        exact bodyPost_ret (v := .tuple #[.agg #[.bool fo, .int .i64 fn], .bool true]) (by simp [results, Try.results20, go_sem, p0, p1]) rfl ⟨by rw [HOV.out.1, HOV.out.2], put2 (Below.chain hb hb1) (Nat.le_refl _) _ _⟩
end Go.Proofs.Ythcakiibkocheaa
