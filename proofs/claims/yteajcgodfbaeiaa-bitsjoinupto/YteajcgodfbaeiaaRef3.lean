/- The contracts of the reference's Text, Get and GetText. -/
import Derived.Test.YteajcgodfbaeiaaRef2
namespace Go.Proofs.Yteajcgodfbaeiaa
open Go.RowKit

theorem strCells_eq (s : ByteArray) : Lib.strCells s = cells s.data.toList := rfl

theorem rtext_any (base : Nat) (v : Value) (n : Nat) (s : ByteArray) (l : List UInt8) (w : World) (ho : w.ownsRow base 5 1 v n (cells l)) (hB : n ≤ 1000) (hs : s.size ≤ 1000) (hbase : base ≤ w.heap.size) :
    Calls Try.prog 19 #[v, .string s] w fun e w' => ∃ ao m cap, e = .returned (.slice ao m cap) ∧ Bs w' ao m cap (l ++ (low s.size 2 ++ s.data.toList)) ∧ Below base w w' := by
  obtain ⟨i0, hi, hz0, hz1, hz2⟩ := info_parts info5
  have hs' : ¬ (65535 : Int) < (s.size : Int) := by omega
  go_enter Try.func19, Try.ntmps19
  go_wp2_with fail
  refine (rput_any base v n s.size 2 l w ho (by omega) hbase).mono ?_
  rintro e w1 ⟨v1, rfl, ho1, hb1⟩
  have hsz := hb1.size
  have ho1' : w1.ownsRow base 5 1 v1 (n + 2) (cells (l ++ low s.size 2)) := ho1
  clear ho1
  go_wp2_with (at_builtin; go_must (refine Lib.wpList_append_own_string _ rfl _ _ 22 9 rfl base 5 i0 Try.underlying22 Try.underlying9 hi hz0 hz1 hz2 _ (n + 2) _ rfl ho1' s rfl ?hm ?hby ?hba ?_))
  case hm => unfold maxLen; omega
  case hby => omega
  case hba => omega
  intro v2 w2 ho2 hg2 _
  rw [strCells_eq, ← cells_append, List.append_assoc] at ho2
  obtain ⟨a2, c2, rfl, hb2⟩ := Bs.of_own ho2
  go_wp2
  go_ret
  exact ⟨_, _, _, rfl, hb2, hb1.grown hg2 (Nat.le_trans hbase hsz) (fun i e => (ho1'.lt i e).1)⟩

theorem rget_short (ao : Option Addr) (n cap : Nat) (bytes : Int) (w : World) (hlt : n < held bytes) :
    Calls Try.prog 11 #[.slice ao n cap, .int .i64 bytes] w fun e w' => e = .returned (.tuple #[.int .u64 0, .slice ao n cap, .bool false]) ∧ w = w' := by
  have hk : (bytes ≤ 0 ∧ held bytes = 0) ∨ (8 < bytes ∧ held bytes = 8) ∨ (0 < bytes ∧ bytes ≤ 8 ∧ bytes = (held bytes : Int)) := by unfold held; omega
  generalize held bytes = k at *
  rcases hk with ⟨h1, rfl⟩ | ⟨h1, rfl⟩ | ⟨h1, h2, rfl⟩
  · omega
  · have hi : (n : Int) < 8 := by omega
    go_enter Try.func11, Try.ntmps11
    go_wp2
    go_ret3
    exact ⟨rfl, rfl⟩
  · have hi : (n : Int) < (k : Int) := by omega
    go_enter Try.func11, Try.ntmps11
    go_wp2
    go_ret3
    exact ⟨rfl, rfl⟩

set_option maxHeartbeats 1000000 in
theorem rget_ok (ao : Option Addr) (n cap : Nat) (bytes : Int) (l : List UInt8) (w : World) (hb : Bs w ao n cap l) (hle : held bytes ≤ n) :
    Calls Try.prog 11 #[.slice ao n cap, .int .i64 bytes] w fun e w' => e = .returned (.tuple #[.int .u64 (num (l.take (held bytes))), .slice (cutA ao cap (held bytes)) (n - held bytes) (cap - held bytes), .bool true]) ∧ Below w.heap.size w w' := by
  have hh := held_le bytes
  have hk : (bytes ≤ 0 ∧ held bytes = 0) ∨ (8 < bytes ∧ held bytes = 8) ∨ (0 < bytes ∧ bytes ≤ 8 ∧ bytes = (held bytes : Int)) := by unfold held; omega
  generalize held bytes = k at *
  obtain ⟨hl, hnc, hcm, hcell⟩ := hb
  unfold maxLen at hcm
  have HL : Hid (l.length = n) := hl
  clear hl
  rcases hk with ⟨h1, rfl⟩ | ⟨h1, rfl⟩ | ⟨h1, h2, rfl⟩
  · have c2 : ∀ w : World, (Instr.slice 22 (.slice ao n cap) (some (.int .i64 0)) none none).run Try.prog w = .ok (.slice (cutA ao cap 0) (n - 0) (cap - 0)) w := cut_tail ao n cap 0 hle
    go_enter Try.func11, Try.ntmps11
    go_wp2
    go_loop [8, 9] (fun r i => ∃ j : Nat, j ≤ 0 ∧ i = .int .i64 j ∧ r = .int .u64 (num (l.take j))) (fun _ i => 0 - (intOf i).toNat)
    case atStart => exact ⟨0, by omega, rfl, by simp [num]⟩
    case round =>
      obtain ⟨j, hj, rfl, rfl⟩ := hrel
      by_cases hlt : j < 0
      · exact absurd hlt (Nat.not_lt_zero _)
      · obtain rfl : j = 0 := by omega
        clear hcell
        go_wp2
        go_quiet (fail)
        go_wp2
        go_ret3
        exact ⟨rfl, below_drewN (Below.refl _ _) _⟩
  · have c2 : ∀ w : World, (Instr.slice 22 (.slice ao n cap) (some (.int .i64 8)) none none).run Try.prog w = .ok (.slice (cutA ao cap 8) (n - 8) (cap - 8)) w := cut_tail ao n cap 8 hle
    have hi : ¬ (n : Int) < 8 := by omega
    go_enter Try.func11, Try.ntmps11
    go_wp2
    go_loop [8, 9] (fun r i => ∃ j : Nat, j ≤ 8 ∧ i = .int .i64 j ∧ r = .int .u64 (num (l.take j))) (fun _ i => 8 - (intOf i).toNat)
    case atStart => exact ⟨0, by omega, rfl, by simp [num]⟩
    case round =>
      obtain ⟨j, hj, rfl, rfl⟩ := hrel
      by_cases hlt : j < 8
      · obtain ⟨b, off, rfl, hc⟩ := hcell (by omega)
        have hck := hc j (by omega)
        have HS : Hid (num (l.take (j + 1)) = num (l.take j) + 256 ^ j * (l.getD j 0).toNat) := num_snoc (by rw [HL.out]; omega)
        have hr := num_take_lt l j
        generalize num (l.take j) = r at *
        generalize l.getD j 0 = c at *
        have hc255 := c.toNat_lt
        clear hc hcell c2
        have hor := or_step (show j < 8 by omega) hr c
        clear hr
        go_wp2
        go_round
        case rel => exact ⟨j + 1, by omega, by go_num, by rw [HS.out]; simp⟩
        case measure => simp [intOf]; omega
      · obtain rfl : j = 8 := by omega
        clear hcell
        go_wp2
        go_quiet (fail)
        go_wp2
        go_ret3
        exact ⟨rfl, below_drewN (Below.refl _ _) _⟩
  · have c2 : ∀ w : World, (Instr.slice 22 (.slice ao n cap) (some (.int .i64 (k : Int))) none none).run Try.prog w = .ok (.slice (cutA ao cap k) (n - k) (cap - k)) w := cut_tail ao n cap k hle
    have hi : ¬ (n : Int) < (k : Int) := by omega
    go_enter Try.func11, Try.ntmps11
    go_wp2
    go_loop [8, 9] (fun r i => ∃ j : Nat, j ≤ k ∧ i = .int .i64 j ∧ r = .int .u64 (num (l.take j))) (fun _ i => k - (intOf i).toNat)
    case atStart => exact ⟨0, by omega, rfl, by simp [num]⟩
    case round =>
      obtain ⟨j, hj, rfl, rfl⟩ := hrel
      by_cases hlt : j < k
      · obtain ⟨b, off, rfl, hc⟩ := hcell (by omega)
        have hck := hc j (by omega)
        have HS : Hid (num (l.take (j + 1)) = num (l.take j) + 256 ^ j * (l.getD j 0).toNat) := num_snoc (by rw [HL.out]; omega)
        have hr := num_take_lt l j
        generalize num (l.take j) = r at *
        generalize l.getD j 0 = c at *
        have hc255 := c.toNat_lt
        clear hc hcell c2
        have hor := or_step (show j < 8 by omega) hr c
        clear hr
        go_wp2
        go_round
        case rel => exact ⟨j + 1, by omega, by go_num, by rw [HS.out]; simp⟩
        case measure => simp [intOf]; omega
      · obtain rfl : j = k := by omega
        clear hcell
        go_wp2
        go_quiet (fail)
        go_wp2
        go_ret3
        exact ⟨rfl, below_drewN (Below.refl _ _) _⟩

theorem rget2 (ao : Option Addr) (n cap : Nat) (l : List UInt8) (w : World) (hb : Bs w ao n cap l) (h2 : 2 ≤ n) :
    Calls Try.prog 11 #[.slice ao n cap, .int .i64 2] w fun e w' => e = .returned (.tuple #[.int .u64 (num (l.take 2)), .slice (cutA ao cap 2) (n - 2) (cap - 2), .bool true]) ∧ Below w.heap.size w w' :=
  rget_ok ao n cap 2 l w hb h2

theorem cut_headU (ao : Option Addr) (n cap k : Nat) (h : k ≤ cap) (w : World) : (Instr.slice 22 (.slice ao n cap) none (some (.int .u64 k)) none).run Try.prog w = .ok (.slice (cutA ao cap 0) k cap) w := by
  rw [run_slice_h w 22 ao n cap slice22 .u64 (k : Int) (by omega) (by omega), size5]
  simp [sliced, cutA, Result.andThen]
theorem cut_tailU (ao : Option Addr) (n cap k : Nat) (h : k ≤ n) (w : World) : (Instr.slice 22 (.slice ao n cap) (some (.int .u64 k)) none none).run Try.prog w = .ok (.slice (cutA ao cap k) (n - k) (cap - k)) w := by
  rw [run_slice_l w 22 ao n cap slice22 .u64 (k : Int) (by omega) (by omega), size5]
  simp [sliced, cutA, Result.andThen]

theorem rtext_none (ao : Option Addr) (n cap : Nat) (most : Int) (w : World) (h2 : n < 2) :
    Calls Try.prog 18 #[.slice ao n cap, .int .i64 most] w fun e w' => e = .returned (.tuple #[.string ⟨#[]⟩, .slice ao n cap, .int .i64 10]) ∧ Below w.heap.size w w' := by
  go_enter Try.func18, Try.ntmps18
  go_wp2_with fail
  refine (rget_short ao n cap 2 w h2).mono ?_
  rintro e w1 ⟨rfl, rfl⟩
  go_wp2
  go_ret3
  exact ⟨rfl, Below.refl _ _⟩

theorem rtext_long (ao : Option Addr) (n cap : Nat) (most : Int) (l : List UInt8) (w : World) (hb : Bs w ao n cap l) (h2 : 2 ≤ n) (hmax : most ≤ 9223372036854775807) (hm : most < num (l.take 2)) :
    Calls Try.prog 18 #[.slice ao n cap, .int .i64 most] w fun e w' => e = .returned (.tuple #[.string ⟨#[]⟩, .slice ao n cap, .int .i64 11]) ∧ Below w.heap.size w w' := by
  have hN : num (l.take 2) < 65536 := num_take_lt l 2
  have hget := rget2 ao n cap l w hb h2
  generalize num (l.take 2) = N at *
  have HG : Hid _ := hget
  clear hget
  by_cases h0 : most < 0
  · go_enter Try.func18, Try.ntmps18
    go_wp2_with fail
    refine Calls.mono HG.out ?_
    rintro e w1 ⟨rfl, hbel⟩
    go_wp2
    go_ret3
    exact ⟨rfl, hbel⟩
  · have h0' : 0 ≤ most := by omega
    go_enter Try.func18, Try.ntmps18
    go_wp2_with fail
    refine Calls.mono HG.out ?_
    rintro e w1 ⟨rfl, hbel⟩
    go_wp2
    go_ret3
    exact ⟨rfl, hbel⟩

theorem rtext_short (ao : Option Addr) (n cap : Nat) (most : Int) (l : List UInt8) (w : World) (hb : Bs w ao n cap l) (_hB : n ≤ 1000000) (h2 : 2 ≤ n) (hmax : most ≤ 9223372036854775807) (hm : num (l.take 2) ≤ most) (hs : n - 2 < num (l.take 2)) :
    Calls Try.prog 18 #[.slice ao n cap, .int .i64 most] w fun e w' => e = .returned (.tuple #[.string ⟨#[]⟩, .slice ao n cap, .int .i64 10]) ∧ Below w.heap.size w w' := by
  have hN : num (l.take 2) < 65536 := num_take_lt l 2
  have hget := rget2 ao n cap l w hb h2
  generalize num (l.take 2) = N at *
  obtain ⟨n2, hn2⟩ : ∃ n2, n - 2 = n2 := ⟨_, rfl⟩
  rw [hn2] at hget hs
  have hn2' : n2 ≤ 1000000 := by omega
  clear hn2
  have HG : Hid _ := hget
  clear hget
  have h0' : 0 ≤ most := by omega
  have hm' : ¬ most < (N : Int) := by omega
  have hs' : (n2 : Int) < (N : Int) := by omega
  go_enter Try.func18, Try.ntmps18
  go_wp2_with fail
  refine Calls.mono HG.out ?_
  rintro e w1 ⟨rfl, hbel⟩
  go_wp2
  go_ret3
  exact ⟨rfl, hbel⟩

set_option maxHeartbeats 1000000 in
theorem rtext_ok (ao : Option Addr) (n cap : Nat) (most : Int) (l : List UInt8) (w : World) (hb : Bs w ao n cap l) (hB : n ≤ 1000000) (h2 : 2 ≤ n) (hmax : most ≤ 9223372036854775807) (hm : num (l.take 2) ≤ most) (hs : num (l.take 2) ≤ n - 2) :
    Calls Try.prog 18 #[.slice ao n cap, .int .i64 most] w fun e w' => ∃ ao m cap, e = .returned (.tuple #[.string ⟨((l.drop 2).take (num (l.take 2))).toArray⟩, .slice ao m cap, .int .i64 0]) ∧ Bs w' ao m cap ((l.drop 2).drop (num (l.take 2))) ∧ Below w.heap.size w w' := by
  have hN : num (l.take 2) < 65536 := num_take_lt l 2
  have hget := rget2 ao n cap l w hb h2
  have hb2 := hb.tail 2 h2
  generalize num (l.take 2) = N at *
  obtain ⟨n2, hn2⟩ : ∃ n2, n - 2 = n2 := ⟨_, rfl⟩
  rw [hn2] at hget hs hb2
  have hn2' : n2 ≤ 1000000 := by omega
  clear hn2
  generalize cap - 2 = cap2 at *
  generalize cutA ao cap 2 = ao2 at *
  generalize l.drop 2 = l2 at *
  have HG : Hid _ := hget
  clear hget
  have h0' : 0 ≤ most := by omega
  have hm' : ¬ most < (N : Int) := by omega
  have hs' : ¬ (n2 : Int) < (N : Int) := by omega
  have hnc2 := hb2.2.1
  have c3 := cut_headU ao2 n2 cap2 N (by omega)
  have c4 := cut_tailU ao2 n2 cap2 N hs
  have hb3 := hb2.head N hs
  have hb4 := hb2.tail N hs
  go_enter Try.func18, Try.ntmps18
  go_wp2_with fail
  refine Calls.mono HG.out ?_
  rintro e w1 ⟨rfl, hbel⟩
  have hconv : ∀ k : Nat, (convert 22 9 (.slice (cutA ao2 cap2 0) N cap2)).run Try.prog (w1.drewN k) = .ok (.string ⟨(l2.take N).toArray⟩) (w1.drewN k) := fun k => conv_string ((hb3.later hbel).later (below_drewN (Below.refl _ _) k))
  go_wp2
  go_quiet (fail)
  go_wp2
  go_ret3
  exact ⟨_, _, _, rfl, (hb4.later hbel).later (below_drewN (Below.refl _ _) _), below_drewN hbel _⟩
end Go.Proofs.Yteajcgodfbaeiaa
