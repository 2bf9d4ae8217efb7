/- alike: of a window with two samples and more. -/
import Derived.Test.YtchopogodfghoaaRAl0
namespace Go.Proofs.Ytchopogodfghoaa
open Go.RowKit
set_option maxHeartbeats 16000000 in
theorem alike_two (b : Nat) (ao : Option Addr) (n cap : Nat) (l : List Smp) (k now : Int) (w : World) (h : St w b l k now) (hs : Ms w ao n l) (hc : 2 ≤ n) :
    Calls Try.prog 14 #[.pointer (some ⟨b, 0, none⟩), .slice ao n cap] w fun e w' => e = .returned (.bool true) ∧ Below w.heap.size w w' := by
  have hlen := hs.1
  have hn : n ≤ 100 := by have := h.f.le; omega
  have hr := h.f.rg
  have hm := h.m
  clear h
  have hlm : (l.map nv).length = n := by rw [List.length_map]; exact hlen
  have hne : l.isEmpty = false := by
    cases l with
    | nil => simp at hlen; omega
    | cons _ _ => rfl
  have hav : ∀ W, Rl W b l k now → Calls Try.prog 15 #[.pointer (some ⟨b, 0, none⟩)] W fun e w' => e = .returned (.tuple #[.agg #[.bool (ov (avgP l)), .int .i64 (nn (avgP l))], .bool true]) ∧ Below W.heap.size W w' := fun W hW => by
    have := avg_any b l k now W hW hr
    rw [hne, if_neg (by simp)] at this
    exact this
  have hov : ∀ W, Ms W ao n l → Calls Try.prog 31 #[.slice ao n cap, .string ⟨#[97, 118, 103]⟩, .int .i64 1] W fun e w' => e = .returned (.tuple #[.agg #[.bool (ov (avgP l)), .int .i64 (nn (avgP l))], .bool true]) ∧ Below W.heap.size W w' := fun W hW => by
    have := over_avg ao n cap l W hn hW hr
    rw [if_neg (by omega)] at this
    exact this
  have hdl : ∀ W, Rl W b l k now → Calls Try.prog 22 #[.pointer (some ⟨b, 0, none⟩)] W fun e w' => e = .returned (.tuple #[.agg #[.bool (ov (dltP l)), .int .i64 (nn (dltP l))], .bool true]) ∧ Below W.heap.size W w' := fun W hW => by
    have := delta_any b l k now W hW hr
    rw [if_neg (by omega)] at this
    exact this
  have hod : ∀ W, Ms W ao n l → Calls Try.prog 31 #[.slice ao n cap, .string ⟨#[100, 101, 108, 116, 97]⟩, .int .i64 1] W fun e w' => e = .returned (.tuple #[.agg #[.bool (ov (dltP l)), .int .i64 (nn (dltP l))], .bool true]) ∧ Below W.heap.size W w' := fun W hW => by
    have := over_delta ao n cap l W hn hW hr
    rw [if_neg (by omega)] at this
    exact this
  have hsu : ∀ W, Rl W b l k now → Calls Try.prog 18 #[.pointer (some ⟨b, 0, none⟩)] W fun e w' => e = .returned (.agg #[.bool (ov (fSum (cnts (vls l)))), .int .i64 (nn (fSum (cnts (vls l))))]) ∧ Below W.heap.size W w' := fun W hW => sumR_any b l k now W hW hr
  have hrs : ∀ W a c, Ns W a n (l.map nv) → Calls Try.prog 29 #[.slice a n c] W fun e w' => e = .returned (.agg #[.bool (ov (fSum (cnts (vls l)))), .int .i64 (nn (fSum (cnts (vls l))))]) ∧ Below W.heap.size W w' := fun W a c hW => rsumv a n c l W hn hW hr
  have hfi : ∀ W, Rl W b l k now → Calls Try.prog 21 #[.pointer (some ⟨b, 0, none⟩)] W fun e w' => e = .returned (.tuple #[.agg #[.int .i64 (l.getD 0 s0).1, .bool (l.getD 0 s0).2.1, .int .i64 (l.getD 0 s0).2.2], .bool true]) ∧ Below W.heap.size W w' := fun W hW => by
    have := first_any b l k now W hW
    rw [hne] at this
    exact this
  have hla : ∀ W, Rl W b l k now → Calls Try.prog 24 #[.pointer (some ⟨b, 0, none⟩)] W fun e w' => e = .returned (.tuple #[.agg #[.int .i64 (lst l).1, .bool (lst l).2.1, .int .i64 (lst l).2.2], .bool true]) ∧ Below W.heap.size W w' := fun W hW => by
    have := last_any b l k now W hW
    rw [hne] at this
    exact this
  obtain ⟨vb, off, rfl, hcell⟩ := hs.2 (by omega)
  obtain ⟨k0, k1, k2⟩ := hcell 0 (by omega)
  have HC0 : Hid (∀ W, Below w.heap.size w W → W.cell? ⟨vb, off, none⟩ = some (.int .i64 (l.getD 0 s0).1) ∧ W.cell? ⟨vb, off + 1, none⟩ = some (.bool (l.getD 0 s0).2.1) ∧ W.cell? ⟨vb, off + 2, none⟩ = some (.int .i64 (l.getD 0 s0).2.2)) := fun W hW => by
    simp only [Nat.zero_mul, Nat.add_zero] at k0 k1 k2
    exact ⟨(hW.cell (World.block_lt_of_cell? _ _ k0)).trans k0, (hW.cell (World.block_lt_of_cell? _ _ k1)).trans k1, (hW.cell (World.block_lt_of_cell? _ _ k2)).trans k2⟩
  clear k0 k1 k2
  obtain ⟨p, hp⟩ : ∃ p, n - 1 = p := ⟨_, rfl⟩
  have EP : Hid (IntKind.i64.wrap ((n : Int) - 1) = (p : Int) ∧ wrap64 ((n : Int) - 1) = (p : Int) ∧ p < n) := by
    refine ⟨?_, ?_, ?_⟩
    · rw [wI (by omega) (by omega)]; omega
    · rw [wf64 (by omega) (by omega)]; omega
    · omega
  obtain ⟨k0, k1, k2⟩ := hcell p (by omega)
  have hlp : lst l = l.getD p s0 := by unfold lst; rw [hlen, hp]
  rw [← hlp] at k0 k1 k2
  have HC1 : Hid (∀ W, Below w.heap.size w W → W.cell? ⟨vb, off + p * 3, none⟩ = some (.int .i64 (lst l).1) ∧ W.cell? ⟨vb, off + p * 3 + 1, none⟩ = some (.bool (lst l).2.1) ∧ W.cell? ⟨vb, off + p * 3 + 2, none⟩ = some (.int .i64 (lst l).2.2)) := fun W hW =>
    ⟨(hW.cell (World.block_lt_of_cell? _ _ k0)).trans k0, (hW.cell (World.block_lt_of_cell? _ _ k1)).trans k1, (hW.cell (World.block_lt_of_cell? _ _ k2)).trans k2⟩
  clear k0 k1 k2 hlp hp
  clear hcell
  have d0 : decide ((0 : Int) < (n : Int)) = true := decide_eq_true (by omega)
  have hn0 : 0 < n := by omega
  have d1 : decide (0 < n) = true := decide_eq_true hn0
  generalize ov (fSum (cnts (vls l))) = so at *
  generalize nn (fSum (cnts (vls l))) = sn at *
  generalize ov (avgP l) = qo at *
  generalize nn (avgP l) = qn at *
  generalize ov (dltP l) = eo at *
  generalize nn (dltP l) = en at *
  clear hne
  generalize l.getD 0 s0 = x0 at *
  obtain ⟨xt, xo, xn⟩ := x0
  generalize lst l = x1 at *
  obtain ⟨yt, yo, yn⟩ := x1
  try dsimp only at *
  go_enter Try.func14, Try.ntmps14
  go_wp2_with fail
  refine (all_any b l k now _ hm).mono ?_
  rintro e w1 ⟨v1, rfl, ho1, hb1⟩
  obtain ⟨a1, c1, rfl, hm1⟩ := ho1.slice
  rw [hlen] at hm1 ⊢
  have hs1 := hs.later hb1
  have hr1 := hm.later hb1
  clear ho1 hm hs
  go_wp2_with fail
  refine (same_any a1 (some ⟨vb, off, none⟩) n c1 cap l _ (by omega) hm1 hs1).mono ?_
  rintro e w2 ⟨rfl, hb2⟩
  have hs2 := hs1.later hb2
  have hr2 := hr1.later hb2
  have hw2 := Below.chain hb1 hb2
  clear hs1 hr1 hm1 hb1 hb2
  go_wp2_with fail
  refine (len_any b l k now _ hr2).mono ?_
  rintro e w3 ⟨rfl, rfl⟩
  rw [hlen]
  go_wp2_with fail
  refine (hsu _ hr2).mono ?_
  rintro e w4 ⟨rfl, hb4⟩
  have hs4 := hs2.later hb4
  have hr4 := hr2.later hb4
  have hw4 := Below.chain hw2 hb4
  clear hs2 hr2 hw2 hb4 hsu
  go_wp2_with fail
  refine (values_any (some ⟨vb, off, none⟩) n cap l _ (by omega) hs4 hr).mono ?_
  rintro e w5 ⟨v5, rfl, ho5, hb5⟩
  obtain ⟨a5, c5, rfl, hn5⟩ := ho5.slice
  rw [hlm] at hn5 ⊢
  have hs5 := hs4.later hb5
  have hr5 := hr4.later hb5
  have hw5 := Below.chain hw4 hb5
  clear hs4 hr4 hw4 hb5 ho5
  go_wp2_with fail
  refine (hrs _ _ _ hn5).mono ?_
  rintro e w6 ⟨rfl, hb6⟩
  have hs6 := hs5.later hb6
  have hr6 := hr5.later hb6
  have hw6 := Below.chain hw5 hb6
  clear hs5 hr5 hw5 hb6 hn5 hrs
  go_wp2_with fail
  refine (hav _ hr6).mono ?_
  rintro e w7 ⟨rfl, hb7⟩
  have hq := bal hb7 (.cells #[.bool qo, .int .i64 qn] 31)
  have hs7 := hs6.later hq
  have hr7 := hr6.later hq
  have hw7 := Below.chain hw6 hq
  have hx0 := Box.new w7 qo qn
  clear hs6 hr6 hw6 hq hav
  go_wp2_with fail
  clear hb7
  generalize w7.alloc (.cells #[.bool qo, .int .i64 qn] 31) = y7 at *
  generalize w7.heap.size = p0 at *
  refine (hov _ hs7).mono ?_
  rintro e w8 ⟨rfl, hb8⟩
  have hq := bal hb8 (.cells #[.bool qo, .int .i64 qn] 31)
  have hs8 := hs7.later hq
  have hr8 := hr7.later hq
  have hw8 := Below.chain hw7 hq
  replace hx0 := hx0.later hq
  have hx1 := Box.new w8 qo qn
  clear hs7 hr7 hw7 hq hov
  go_wp2_with fail
  clear hb8
  generalize w8.alloc (.cells #[.bool qo, .int .i64 qn] 31) = y8 at *
  generalize w8.heap.size = p1 at *
  refine (hdl _ hr8).mono ?_
  rintro e w9 ⟨rfl, hb9⟩
  have hq := bal hb9 (.cells #[.bool eo, .int .i64 en] 31)
  have hs9 := hs8.later hq
  have hr9 := hr8.later hq
  have hw9 := Below.chain hw8 hq
  replace hx0 := hx0.later hq
  replace hx1 := hx1.later hq
  have hx2 := Box.new w9 eo en
  clear hs8 hr8 hw8 hq hdl
  go_wp2_with fail
  clear hb9
  generalize w9.alloc (.cells #[.bool eo, .int .i64 en] 31) = y9 at *
  generalize w9.heap.size = p2 at *
  refine (hod _ hs9).mono ?_
  rintro e w10 ⟨rfl, hb10⟩
  have hq := bal hb10 (.cells #[.bool eo, .int .i64 en] 31)
  have hs10 := hs9.later hq
  have hr10 := hr9.later hq
  have hw10 := Below.chain hw9 hq
  replace hx0 := hx0.later hq
  replace hx1 := hx1.later hq
  replace hx2 := hx2.later hq
  have hx3 := Box.new w10 eo en
  clear hs9 hr9 hw9 hq hod
  obtain ⟨z00, z01, _, _⟩ := id hx0
  obtain ⟨z10, z11, _, _⟩ := id hx1
  obtain ⟨z20, z21, _, _⟩ := id hx2
  obtain ⟨z30, z31, _, _⟩ := id hx3
  go_wp2_with fail
  clear z00 z01 z10 z11 z20 z21 z30 z31
  clear hb10
  generalize w10.alloc (.cells #[.bool eo, .int .i64 en] 31) = y10 at *
  generalize w10.heap.size = p3 at *
  clear hx0 hx1 hx2 hx3
  refine (hfi _ hr10).mono ?_
  rintro e w11 ⟨rfl, hb11⟩
  have hq := bal hb11 (.cells #[.int .i64 xt, .bool xo, .int .i64 xn] 38)
  have hs11 := hs10.later hq
  have hr11 := hr10.later hq
  have hw11 := Below.chain hw10 hq
  have hx4 := BoxS.new w11 (xt, xo, xn)
  clear hs10 hr10 hw10 hq hfi
  go_wp2_with fail
  clear hb11
  generalize w11.alloc (.cells #[.int .i64 xt, .bool xo, .int .i64 xn] 38) = y11 at *
  generalize w11.heap.size = p4 at *
  refine (hla _ hr11).mono ?_
  rintro e w12 ⟨rfl, hb12⟩
  have hq := bal hb12 (.cells #[.int .i64 yt, .bool yo, .int .i64 yn] 38)
  have hs12 := hs11.later hq
  have hr12 := hr11.later hq
  have hw12 := Below.chain hw11 hq
  replace hx4 := hx4.later hq
  have hx5 := BoxS.new w12 (yt, yo, yn)
  clear hs11 hr11 hw11 hq hla
  obtain ⟨z40, z41, z42, _, _, _⟩ := id hx4
  obtain ⟨z50, z51, z52, _, _, _⟩ := id hx5
  obtain ⟨y0, y1, y2⟩ := HC0.out _ hw12
  obtain ⟨y3, y4, y5⟩ := HC1.out _ hw12
  obtain ⟨ep0, ep1, ep2⟩ := EP.out
  try dsimp only at *
  go_wp2_with fail
  go_quiet (fail)
  go_wp2
  go_ret
  exact ⟨rfl, below_drewN hw12 _⟩
end Go.Proofs.Ytchopogodfghoaa
