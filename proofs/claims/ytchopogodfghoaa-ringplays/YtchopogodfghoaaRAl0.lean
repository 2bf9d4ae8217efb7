/- alike: of a window with no sample. -/
import Derived.Test.YtchopogodfghoaaRModel
import Derived.Test.YtchopogodfghoaaRSame
import Derived.Test.YtchopogodfghoaaRefSum
namespace Go.Proofs.Ytchopogodfghoaa
open Go.RowKit

theorem rsumv (ao : Option Addr) (n cap : Nat) (l : List Smp) (w : World) (hn : n ≤ 100) (hs : Ns w ao n (l.map nv)) (hl : ∀ s ∈ l, R64 s.2.2) :
    Calls Try.prog 29 #[.slice ao n cap] w fun e w' => e = .returned (.agg #[.bool (ov (fSum (cnts (vls l)))), .int .i64 (nn (fSum (cnts (vls l))))]) ∧ Below w.heap.size w w' := by
  have h := rsum_any ao n cap (l.map nv) w hn hs (fun x hx => by obtain ⟨s, hs, rfl⟩ := List.mem_map.1 hx; exact nv_r64 s (hl s hs))
  rw [nv_cnts l hl] at h
  exact h

set_option maxHeartbeats 16000000 in
theorem alike_nil (b : Nat) (ao : Option Addr) (n cap : Nat) (l : List Smp) (k now : Int) (w : World) (h : St w b l k now) (hs : Ms w ao n l) (hc : l = []) :
    Calls Try.prog 14 #[.pointer (some ⟨b, 0, none⟩), .slice ao n cap] w fun e w' => e = .returned (.bool true) ∧ Below w.heap.size w w' := by
  have hlen := hs.1
  have hn : n ≤ 100 := by have := h.f.le; omega
  have hr := h.f.rg
  have hm := h.m
  clear h
  have hlm : (l.map nv).length = n := by rw [List.length_map]; exact hlen
  obtain rfl : n = 0 := by rw [← hlen, hc]; rfl
  have hne : l.isEmpty = true := by rw [hc]; rfl
  have hg0 : l.getD 0 s0 = (0, false, 0) := by rw [hc]; rfl
  have hg1 : lst l = (0, false, 0) := by rw [hc]; rfl
  have hav : ∀ W, Rl W b l k now → Calls Try.prog 15 #[.pointer (some ⟨b, 0, none⟩)] W fun e w' => e = .returned (.tuple #[.agg #[.bool false, .int .i64 0], .bool false]) ∧ Below W.heap.size W w' := fun W hW => by
    have := avg_any b l k now W hW hr
    rw [hne, if_pos rfl] at this
    exact this
  have hov : ∀ W, Ms W ao 0 l → Calls Try.prog 31 #[.slice ao 0 cap, .string ⟨#[97, 118, 103]⟩, .int .i64 1] W fun e w' => e = .returned (.tuple #[.agg #[.bool false, .int .i64 0], .bool false]) ∧ Below W.heap.size W w' := fun W hW => by
    have := over_avg ao 0 cap l W hn hW hr
    rw [if_pos rfl] at this
    exact this
  have hdl : ∀ W, Rl W b l k now → Calls Try.prog 22 #[.pointer (some ⟨b, 0, none⟩)] W fun e w' => e = .returned (.tuple #[.agg #[.bool false, .int .i64 0], .bool false]) ∧ Below W.heap.size W w' := fun W hW => by
    have := delta_any b l k now W hW hr
    rw [if_pos (by omega)] at this
    exact this
  have hod : ∀ W, Ms W ao 0 l → Calls Try.prog 31 #[.slice ao 0 cap, .string ⟨#[100, 101, 108, 116, 97]⟩, .int .i64 1] W fun e w' => e = .returned (.tuple #[.agg #[.bool false, .int .i64 0], .bool false]) ∧ Below W.heap.size W w' := fun W hW => by
    have := over_delta ao 0 cap l W hn hW hr
    rw [if_pos (by omega)] at this
    exact this
  have hsu : ∀ W, Rl W b l k now → Calls Try.prog 18 #[.pointer (some ⟨b, 0, none⟩)] W fun e w' => e = .returned (.agg #[.bool (ov (fSum (cnts (vls l)))), .int .i64 (nn (fSum (cnts (vls l))))]) ∧ Below W.heap.size W w' := fun W hW => sumR_any b l k now W hW hr
  have hrs : ∀ W a c, Ns W a 0 (l.map nv) → Calls Try.prog 29 #[.slice a 0 c] W fun e w' => e = .returned (.agg #[.bool (ov (fSum (cnts (vls l)))), .int .i64 (nn (fSum (cnts (vls l))))]) ∧ Below W.heap.size W w' := fun W a c hW => rsumv a 0 c l W hn hW hr
  have hfi : ∀ W, Rl W b l k now → Calls Try.prog 21 #[.pointer (some ⟨b, 0, none⟩)] W fun e w' => e = .returned (.tuple #[.agg #[.int .i64 0, .bool false, .int .i64 0], .bool false]) ∧ Below W.heap.size W w' := fun W hW => by
    have := first_any b l k now W hW
    rw [hne, hg0] at this
    exact this
  have hla : ∀ W, Rl W b l k now → Calls Try.prog 24 #[.pointer (some ⟨b, 0, none⟩)] W fun e w' => e = .returned (.tuple #[.agg #[.int .i64 0, .bool false, .int .i64 0], .bool false]) ∧ Below W.heap.size W w' := fun W hW => by
    have := last_any b l k now W hW
    rw [hne, hg1] at this
    exact this
  generalize ov (fSum (cnts (vls l))) = so at *
  generalize nn (fSum (cnts (vls l))) = sn at *
  go_enter Try.func14, Try.ntmps14
  go_wp2_with fail
  refine (all_any b l k now _ hm).mono ?_
  rintro e w1 ⟨v1, rfl, ho1, hb1⟩
  obtain ⟨a1, c1, rfl, hm1⟩ := ho1.slice
  rw [hlen] at hm1 ⊢
  have hs1 := hs.later hb1
  have hr1 := hm.later hb1
  clear ho1 hm hs
  go_wp2_with fail
  refine (same_any a1 ao 0 c1 cap l _ (by omega) hm1 hs1).mono ?_
  rintro e w2 ⟨rfl, hb2⟩
  have hs2 := hs1.later hb2
  have hr2 := hr1.later hb2
  have hw2 := Below.chain hb1 hb2
  clear hs1 hr1 hm1 hb1 hb2
  go_wp2_with fail
  refine (len_any b l k now _ hr2).mono ?_
  rintro e w3 ⟨rfl, rfl⟩
  rw [hlen]
  go_wp2_with fail
  refine (hsu _ hr2).mono ?_
  rintro e w4 ⟨rfl, hb4⟩
  have hs4 := hs2.later hb4
  have hr4 := hr2.later hb4
  have hw4 := Below.chain hw2 hb4
  clear hs2 hr2 hw2 hb4 hsu
  go_wp2_with fail
  refine (values_any ao 0 cap l _ (by omega) hs4 hr).mono ?_
  rintro e w5 ⟨v5, rfl, ho5, hb5⟩
  obtain ⟨a5, c5, rfl, hn5⟩ := ho5.slice
  rw [hlm] at hn5 ⊢
  have hs5 := hs4.later hb5
  have hr5 := hr4.later hb5
  have hw5 := Below.chain hw4 hb5
  clear hs4 hr4 hw4 hb5 ho5
  go_wp2_with fail
  refine (hrs _ _ _ hn5).mono ?_
  rintro e w6 ⟨rfl, hb6⟩
  have hs6 := hs5.later hb6
  have hr6 := hr5.later hb6
  have hw6 := Below.chain hw5 hb6
  clear hs5 hr5 hw5 hb6 hn5 hrs
  go_wp2_with fail
  refine (hav _ hr6).mono ?_
  rintro e w7 ⟨rfl, hb7⟩
  have hq := bal hb7 (.cells #[.bool false, .int .i64 0] 31)
  have hs7 := hs6.later hq
  have hr7 := hr6.later hq
  have hw7 := Below.chain hw6 hq
  have hx0 := Box.new w7 false 0
  clear hs6 hr6 hw6 hq hav
  go_wp2_with fail
  clear hb7
  generalize w7.alloc (.cells #[.bool false, .int .i64 0] 31) = y7 at *
  generalize w7.heap.size = p0 at *
  refine (hov _ hs7).mono ?_
  rintro e w8 ⟨rfl, hb8⟩
  have hq := bal hb8 (.cells #[.bool false, .int .i64 0] 31)
  have hs8 := hs7.later hq
  have hr8 := hr7.later hq
  have hw8 := Below.chain hw7 hq
  replace hx0 := hx0.later hq
  have hx1 := Box.new w8 false 0
  clear hs7 hr7 hw7 hq hov
  go_wp2_with fail
  clear hb8
  generalize w8.alloc (.cells #[.bool false, .int .i64 0] 31) = y8 at *
  generalize w8.heap.size = p1 at *
  refine (hdl _ hr8).mono ?_
  rintro e w9 ⟨rfl, hb9⟩
  have hq := bal hb9 (.cells #[.bool false, .int .i64 0] 31)
  have hs9 := hs8.later hq
  have hr9 := hr8.later hq
  have hw9 := Below.chain hw8 hq
  replace hx0 := hx0.later hq
  replace hx1 := hx1.later hq
  have hx2 := Box.new w9 false 0
  clear hs8 hr8 hw8 hq hdl
  go_wp2_with fail
  clear hb9
  generalize w9.alloc (.cells #[.bool false, .int .i64 0] 31) = y9 at *
  generalize w9.heap.size = p2 at *
  refine (hod _ hs9).mono ?_
  rintro e w10 ⟨rfl, hb10⟩
  have hq := bal hb10 (.cells #[.bool false, .int .i64 0] 31)
  have hs10 := hs9.later hq
  have hr10 := hr9.later hq
  have hw10 := Below.chain hw9 hq
  replace hx0 := hx0.later hq
  replace hx1 := hx1.later hq
  replace hx2 := hx2.later hq
  have hx3 := Box.new w10 false 0
  clear hs9 hr9 hw9 hq hod
  obtain ⟨z00, z01, _, _⟩ := id hx0
  obtain ⟨z10, z11, _, _⟩ := id hx1
  obtain ⟨z20, z21, _, _⟩ := id hx2
  obtain ⟨z30, z31, _, _⟩ := id hx3
  go_wp2_with fail
  clear z00 z01 z10 z11 z20 z21 z30 z31
  clear hb10
  generalize w10.alloc (.cells #[.bool false, .int .i64 0] 31) = y10 at *
  generalize w10.heap.size = p3 at *
  clear hx0 hx1 hx2 hx3
  refine (hfi _ hr10).mono ?_
  rintro e w11 ⟨rfl, hb11⟩
  have hq := bal hb11 (.cells #[.int .i64 0, .bool false, .int .i64 0] 38)
  have hs11 := hs10.later hq
  have hr11 := hr10.later hq
  have hw11 := Below.chain hw10 hq
  have hx4 := BoxS.new w11 (0, false, 0)
  clear hs10 hr10 hw10 hq hfi
  go_wp2_with fail
  clear hb11
  generalize w11.alloc (.cells #[.int .i64 0, .bool false, .int .i64 0] 38) = y11 at *
  generalize w11.heap.size = p4 at *
  refine (hla _ hr11).mono ?_
  rintro e w12 ⟨rfl, hb12⟩
  have hq := bal hb12 (.cells #[.int .i64 0, .bool false, .int .i64 0] 38)
  have hs12 := hs11.later hq
  have hr12 := hr11.later hq
  have hw12 := Below.chain hw11 hq
  replace hx4 := hx4.later hq
  have hx5 := BoxS.new w12 (0, false, 0)
  clear hs11 hr11 hw11 hq hla
  obtain ⟨z40, z41, z42, _, _, _⟩ := id hx4
  obtain ⟨z50, z51, z52, _, _, _⟩ := id hx5
  try dsimp only at *
  try dsimp only at *
  go_wp2_with fail
  go_quiet (fail)
  go_wp2
  go_ret
  exact ⟨rfl, below_drewN hw12 _⟩
end Go.Proofs.Ytchopogodfghoaa
