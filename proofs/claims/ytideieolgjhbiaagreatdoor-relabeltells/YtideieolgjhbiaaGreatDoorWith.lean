/- latest and With: fewer than twenty pairs together. -/
import Derived.Test.YtideieolgjhbiaaGreatDoorSmall
import Derived.Test.YtideieolgjhbiaaGreatDoorStable
import Derived.Test.YtideieolgjhbiaaGreatDoorConcat
namespace Go.Proofs.YtideieolgjhbiaaGreatDoor
open Go.RowKit

theorem ends_last (p : Pr) : ends [p] = [p] := rfl
theorem drop_at {m : List Pr} {j : Nat} (h : j < m.length) : m.drop j = m.getD j ([], []) :: m.drop (j + 1) := by
  rw [getD_at h]
  exact List.drop_eq_getElem_cons h
theorem ends_end {m : List Pr} {j : Nat} (h : j + 1 = m.length) : ends (m.drop j) = [m.getD j ([], [])] ++ ends (m.drop (j + 1)) := by
  rw [drop_at (by omega), List.drop_of_length_le (by omega)]
  rfl
theorem ends_new {m : List Pr} {j : Nat} (h : j + 1 < m.length) (e : (m.getD (j + 1) ([], [])).1 ≠ (m.getD j ([], [])).1) : ends (m.drop j) = [m.getD j ([], [])] ++ ends (m.drop (j + 1)) := by
  rw [drop_at (show j < m.length by omega), drop_at h, ends, if_neg (fun x => e x.symm)]
  rfl
theorem ends_same {m : List Pr} {j : Nat} (h : j + 1 < m.length) (e : (m.getD (j + 1) ([], [])).1 = (m.getD j ([], [])).1) : ends (m.drop j) = ends (m.drop (j + 1)) := by
  rw [drop_at (show j < m.length by omega), drop_at h, ends, if_pos e.symm]

set_option maxRecDepth 100000 in
set_option maxHeartbeats 2000000 in
theorem latest_any (xa : Option Addr) (n c : Nat) (l : List Pr) (ya : Option Addr) (m d : Nat) (p : List Pr) (w : World) (hnm : n + m < 20) (hx : Ps w xa n l) (hy : Ps w ya m p) :
    Calls Tryz.prog 38 #[.slice xa n c, .slice ya m d] w fun e w' => ∃ v, e = .returned v ∧ Own w' w.heap.size v (latest l p) ∧ Below w.heap.size w w' := by
  obtain ⟨i0, hi, hz0, hz1, hz2⟩ := info_parts35
  have hb0 : Below w.heap.size w (w.alloc (.cells #[.slice xa n c, .slice ya m d] 22)) := bal (Below.refl _ _) _
  have hcc := concat_any w.heap.size xa n c l ya m d p (w.alloc (.cells #[.slice xa n c, .slice ya m d] 22)) (by omega) (by omega) (World.cell?_alloc_new w _ _ 0) (World.cell?_alloc_new w _ _ 1) (hx.later hb0) (hy.later hb0)
  have hlen : (l ++ p).length = n + m := by rw [List.length_append, hx.1, hy.1]
  have HL : Hid ((l ++ p).length = n + m) := hlen
  generalize hT : l ++ p = t at *
  have HT : Hid _ := hT
  clear hlen hT hx hy
  go_enter Tryz.func38, Tryz.ntmps38
  go_wp2_with fail
  refine hcc.mono ?_
  rintro e w1 ⟨v1, rfl, ho1, hb1⟩
  generalize w.alloc (.cells #[.slice xa n c, .slice ya m d] 22) = W0 at *
  have hs := stable_any v1 W0.heap.size t W0 w1 ho1 (by rw [HL.out]; omega) hb1 (Nat.le_refl _)
  obtain ⟨ao, cap, rfl, _, _⟩ := ho1.slice
  clear ho1 hcc
  go_wp2_with fail
  refine hs.mono ?_
  rintro e w2 ⟨rfl, ao', cap', mm, he, hps, hsrt, hof, hb2⟩
  cases he
  have HE : Hid (ends mm = latest l p) := by show _ = _; unfold latest; rw [HT.out]; exact ends_eq hsrt hof
  obtain ⟨N, hN⟩ : ∃ N, t.length = N := ⟨_, rfl⟩
  rw [hN] at hps ⊢
  have hN2 : N < 20 := by rw [← hN, HL.out]; exact hnm
  have HM : Hid (mm.length = N) := hps.1
  obtain ⟨_, hcell⟩ := hps
  have B2 : Below w.heap.size w w2 := Below.chain hb0 hb2
  have hbe : Below w2.heap.size w2 (w2.alloc (.cells #[] 44)) := bal (Below.refl _ _) _
  clear hs hsrt hof hb1 hb2 hb0 hN HL HT
  go_wp2_with fail
  go_loopw [18, 6] (fun i u W => ∃ (j : Nat) (v : Value) (out : List Pr), j ≤ N ∧ i = .int .i64 j ∧ v = u ∧ Own W w2.heap.size v out ∧ Hid (ends mm = out ++ ends (mm.drop j)) ∧ out.length ≤ j ∧ Below w2.heap.size w2 W) (fun i _ _ => N - (intOf i).toNat)
  case atStart => exact ⟨0, _, [], by omega, rfl, rfl, World.ownsRow_made w2 #[] 0 (Nat.le_refl _) (Nat.zero_le _) (by simp), rfl, Nat.le_refl _, hbe⟩
  case round =>
    obtain ⟨j, v, out, hj, rfl, rfl, ho, HO, hol, hb⟩ := hrel
    by_cases hlt : j < N
    · obtain ⟨b1, o1, rfl, h1⟩ := hcell (by omega)
      obtain ⟨c10, c11⟩ := h1 j hlt
      have k0 := (hb.cell (p := ⟨b1, o1 + j * 2, none⟩) (World.block_lt_of_cell? _ _ c10)).trans c10
      have k1 := (hb.cell (p := ⟨b1, o1 + j * 2 + 1, none⟩) (World.block_lt_of_cell? _ _ c11)).trans c11
      have hjm : j < mm.length := by rw [HM.out]; exact hlt
      by_cases hl1 : j + 1 < N
      · obtain ⟨c20, _⟩ := h1 (j + 1) hl1
        have k2 := (hb.cell (p := ⟨b1, o1 + (j + 1) * 2, none⟩) (World.block_lt_of_cell? _ _ c20)).trans c20
        have HS : Hid _ := ends_same (m := mm) (j := j) (by rw [HM.out]; exact hl1)
        have HW : Hid _ := ends_new (m := mm) (j := j) (by rw [HM.out]; exact hl1)
        clear h1 hcell c10 c11 c20 hjm
        generalize mm.getD j ([], []) = a at *
        generalize (mm.getD (j + 1) ([], [])).1 = q at *
        have hbx := Box.new wr a
        have hb1 := bal hb (.cells #[tx a.1, tx a.2] 44)
        have ho1 := ho.later (bal (Below.refl _ _) (.cells #[tx a.1, tx a.2] 44))
        have hne : ((j : Int) + 1 == (N : Int)) = false := by rw [beq_eq_false_iff_ne]; omega
        have hi1 : (j : Int) + 1 < (N : Int) := by omega
        have hi2 : ¬ ((j : Int) + 1 < 0) := by omega
        have hi3 : ((j : Int) + 1).toNat = j + 1 := by omega
        have hi4 : (0 : Int) ≤ (j : Int) + 1 := by omega
        have hwr : IntKind.i64.wrap ((j : Int) + 1) = (j : Int) + 1 := by rw [IntKind.wrap_i64]; omega
        obtain ⟨a1, a2⟩ := a
        dsimp only at *
        have m2 : (wr.alloc (.cells #[.string ⟨a1.toArray⟩, .string ⟨a2.toArray⟩] 44)).cell? ⟨b1, o1 + (j + 1) * 2, none⟩ = some (tx q) := ((bal (Below.refl _ wr) _).cell (p := ⟨b1, o1 + (j + 1) * 2, none⟩) (World.block_lt_of_cell? _ _ k2)).trans k2
        have m0 : (wr.alloc (.cells #[.string ⟨a1.toArray⟩, .string ⟨a2.toArray⟩] 44)).cell? ⟨wr.heap.size, 0, none⟩ = some (tx a1) := hbx.c0
        by_cases hpq : q = a1
        · have HS2 : Hid (ends mm = out ++ ends (mm.drop (j + 1))) := by show _ = _; rw [HO.out, HS.out hpq]
          have hpq' : (q == a1) = true := by simpa using hpq
          clear HS HW HO hpq
          go_wp2
          go_quiet (fail)
          go_wp2
          go_roundw
          case rel => exact ⟨j + 1, _, out, by omega, by go_num, rfl, ho1.later (below_drewN (Below.refl _ _) _), HS2, by omega, below_drewN hb1 _⟩
          case measure => simp [intOf]; omega
        · have HS2 : Hid (ends mm = (out ++ [(a1, a2)]) ++ ends (mm.drop (j + 1))) := by show _ = _; rw [HO.out, HW.out hpq, List.append_assoc]
          have hpq' : (q == a1) = false := by simpa using hpq
          clear HS HW HO hpq
          go_wp2
          go_quiet (fail)
          have ho2 : Own ((wr.alloc (.cells #[.string ⟨a1.toArray⟩, .string ⟨a2.toArray⟩] 44)).drewN nq) w2.heap.size v out := ho1.later (below_drewN (Below.refl _ _) nq)
          have hbx2 : Box ((wr.alloc (.cells #[.string ⟨a1.toArray⟩, .string ⟨a2.toArray⟩] 44)).drewN nq) wr.heap.size (a1, a2) := hbx.later (below_drewN (Below.refl _ _) nq)
          have hb2 : Below w2.heap.size w2 ((wr.alloc (.cells #[.string ⟨a1.toArray⟩, .string ⟨a2.toArray⟩] 44)).drewN nq) := below_drewN hb1 nq
          clear ho ho1 hbx hb hb1
          generalize (wr.alloc (.cells #[.string ⟨a1.toArray⟩, .string ⟨a2.toArray⟩] 44)).drewN nq = W2 at *
          obtain ⟨d0, d1, _, _⟩ := hbx2
          have ho3 := ho2.later (bal (Below.refl _ _) (.cells #[tx a1, tx a2] 44))
          have hb3 := bal hb2 (.cells #[tx a1, tx a2] 44)
          go_wp2_with (at_builtin; go_must (refine wp_app (w0 := w2) rfl _ _ rfl w2.heap.size _ out [(a1, a2)] (some ⟨W2.heap.size, 0, none⟩) 1 1 rfl rfl ho3 (Ps.one W2 (a1, a2)) hb3 (Nat.le_refl _) ?hN ?_))
          case hN => omega
          intro v7 w7 ho7 hb7
          go_wp2
          go_roundw
          case rel => exact ⟨j + 1, _, out ++ [(a1, a2)], by omega, by go_num, rfl, ho7, HS2, by simp; omega, hb7⟩
          case measure => simp [intOf]; omega
      · have HW : Hid _ := ends_end (m := mm) (j := j) (by rw [HM.out]; omega)
        clear h1 hcell c10 c11 hjm
        generalize mm.getD j ([], []) = a at *
        have hbx := Box.new wr a
        have hb1 := bal hb (.cells #[tx a.1, tx a.2] 44)
        have ho1 := ho.later (bal (Below.refl _ _) (.cells #[tx a.1, tx a.2] 44))
        have hne : ((j : Int) + 1 == (N : Int)) = true := by rw [beq_iff_eq]; omega
        have hwr : IntKind.i64.wrap ((j : Int) + 1) = (j : Int) + 1 := by rw [IntKind.wrap_i64]; omega
        obtain ⟨a1, a2⟩ := a
        dsimp only at *
        have HS2 : Hid (ends mm = (out ++ [(a1, a2)]) ++ ends (mm.drop (j + 1))) := by show _ = _; rw [HO.out, HW.out, List.append_assoc]
        clear HW HO
        go_wp2
        go_quiet (fail)
        have ho2 : Own ((wr.alloc (.cells #[.string ⟨a1.toArray⟩, .string ⟨a2.toArray⟩] 44)).drewN nq) w2.heap.size v out := ho1.later (below_drewN (Below.refl _ _) nq)
        have hbx2 : Box ((wr.alloc (.cells #[.string ⟨a1.toArray⟩, .string ⟨a2.toArray⟩] 44)).drewN nq) wr.heap.size (a1, a2) := hbx.later (below_drewN (Below.refl _ _) nq)
        have hb2 : Below w2.heap.size w2 ((wr.alloc (.cells #[.string ⟨a1.toArray⟩, .string ⟨a2.toArray⟩] 44)).drewN nq) := below_drewN hb1 nq
        clear ho ho1 hbx hb hb1
        generalize (wr.alloc (.cells #[.string ⟨a1.toArray⟩, .string ⟨a2.toArray⟩] 44)).drewN nq = W2 at *
        obtain ⟨d0, d1, _, _⟩ := hbx2
        have ho3 := ho2.later (bal (Below.refl _ _) (.cells #[tx a1, tx a2] 44))
        have hb3 := bal hb2 (.cells #[tx a1, tx a2] 44)
        go_wp2_with (at_builtin; go_must (refine wp_app (w0 := w2) rfl _ _ rfl w2.heap.size _ out [(a1, a2)] (some ⟨W2.heap.size, 0, none⟩) 1 1 rfl rfl ho3 (Ps.one W2 (a1, a2)) hb3 (Nat.le_refl _) ?hN ?_))
        case hN => omega
        intro v7 w7 ho7 hb7
        go_wp2
        go_roundw
        case rel => exact ⟨j + 1, _, out ++ [(a1, a2)], by omega, by go_num, rfl, ho7, HS2, by simp; omega, hb7⟩
        case measure => simp [intOf]; omega
    · have hjN : j = N := by omega
      have HR : Hid (out = latest l p) := by
        show _ = _
        have := HO.out
        rw [List.drop_of_length_le (by rw [HM.out]; omega)] at this
        rw [← HE.out, this]
        simp [ends]
      rw [HR.out] at ho
      clear HO HR hol hjN
      go_wp2_with fail
      go_ret
      exact ⟨_, rfl, ho.base B2.size, B2.trans (hb.mono B2.size)⟩

theorem lastOf_len (l : List Pr) : (lastOf l).length ≤ l.length := by
  induction l with
  | nil => exact Nat.le_refl _
  | cons a r ih =>
    rw [lastOf]
    split
    · exact Nat.le_trans ih (Nat.le_succ _)
    · simpa using ih
theorem latest_len (l p : List Pr) : (latest l p).length ≤ l.length + p.length := by
  unfold latest
  rw [(srt_perm _).length_eq, ← List.length_append]
  exact lastOf_len _
theorem latest_fit {l p : List Pr} (hl : Fit l) (hp : Fit p) : Fit (latest l p) := fun q hq => by
  have h := lastOf_sub ((srt_perm _).mem_iff.1 hq)
  rcases List.mem_append.1 h with h | h
  · exact hl q h
  · exact hp q h

set_option maxRecDepth 100000 in
set_option maxHeartbeats 1000000 in
theorem with_any (xa : Option Addr) (n c : Nat) (l : List Pr) (ya : Option Addr) (m d : Nat) (p : List Pr) (w : World) (hn : n ≤ 1000000) (hm : m ≤ 11) (hf : Fit l) (hfp : Fit p) (hx : Ps w xa n l) (hy : Ps w ya m p) :
    Calls Tryz.prog 19 #[.slice xa n c, .slice ya m d] w fun e w' => ∃ v, e = .returned (.tuple #[v, .int .i64 (withE l p)]) ∧ Own w' w.heap.size v (withL l p) ∧ Below w.heap.size w w' := by
  have his := is_any xa n c l w (by omega) hf hx
  cases hil : fIs l with
  | false =>
    have HE : Hid (withE l p = 30) := by show _ = _; unfold withE; rw [hil]; rfl
    have HLL : Hid (withL l p = []) := by show _ = _; unfold withL; rw [HE.out]; rfl
    rw [hil] at his
    clear hil
    go_enter Tryz.func19, Tryz.ntmps19
    go_wp2_with fail
    refine his.mono ?_
    rintro e w1 ⟨rfl, hb1⟩
    go_wp2
    go_ret2
    exact ⟨_, by rw [HE.out]; rfl, by rw [HLL.out]; exact Own.none _ _, hb1⟩
  | true =>
    obtain ⟨HE, HLL⟩ := make_latest l p hil
    have HE' : Hid _ := HE
    have HL' : Hid _ := HLL
    have hn8 : n ≤ 8 := by rw [← hx.1]; exact ((is_iff l).1 hil).1
    rw [hil] at his
    clear hil HE HLL
    go_enter Tryz.func19, Tryz.ntmps19
    go_wp2_with fail
    refine his.mono ?_
    rintro e w1 ⟨rfl, hb1⟩
    go_wp2_with fail
    refine (latest_any xa n c l ya m d p w1 (by omega) (hx.later hb1) (hy.later hb1)).mono ?_
    rintro e w2 ⟨v2, rfl, ho2, hb2⟩
    have B2 := Below.chain hb1 hb2
    obtain ⟨ao, cap, rfl, hps⟩ := ho2.fitN
    have hmk := make_any ao (latest l p).length cap (latest l p) w2 (Nat.le_trans (latest_len l p) (by rw [hx.1, hy.1]; omega)) (latest_fit hf hfp) hps
    rw [HE'.out, HL'.out] at hmk
    generalize (latest l p).length = N at *
    clear ho2
    go_wp2_with fail
    refine hmk.mono ?_
    rintro e w3 ⟨v3, rfl, ho3, hb3⟩
    go_wp2
    go_ret2
    exact ⟨_, rfl, ho3.base B2.size, Below.chain B2 hb3⟩
end Go.Proofs.YtideieolgjhbiaaGreatDoor
