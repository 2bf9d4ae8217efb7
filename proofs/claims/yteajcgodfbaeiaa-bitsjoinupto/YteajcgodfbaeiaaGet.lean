/- The contracts of Get and GetText: what is read of bytes. -/
import Derived.Test.YteajcgodfbaeiaaPut
import Derived.Deep.RegionWith
import Derived.Deep.DrawnRows
import Derived.Deep.QuietTactic
import Derived.BigQuiet
import Derived.WalkSmall
namespace Go.Proofs.Yteajcgodfbaeiaa
open Go.RowKit
attribute [local go_sem ↓] Go.wp_at_zero Go.wp_at_succ

/-- Where a part of a slice begins. -/
def cutA (ao : Option Addr) (cap k : Nat) : Option Addr := if cap = k then ao else ao.map (·.add k)

theorem Bs.cut {w : World} {ao : Option Addr} {n cap : Nat} {l : List UInt8} (h : Bs w ao n cap l) (lo hi : Nat) (h1 : lo ≤ hi) (h2 : hi ≤ n) : Bs w (cutA ao cap lo) (hi - lo) (cap - lo) ((l.take hi).drop lo) := by
  obtain ⟨e1, e2, e3, e4⟩ := h
  refine ⟨by simp; omega, by omega, by omega, fun hp => ?_⟩
  obtain ⟨b, off, rfl, hc⟩ := e4 (by omega)
  refine ⟨b, off + lo, ?_, fun j hj => ?_⟩
  · unfold cutA
    rw [if_neg (by omega)]
    simp [Addr.add_lit]
  · have := hc (lo + j) (by omega)
    rw [← Nat.add_assoc] at this
    rw [this]
    have hg : ((l.take hi).drop lo).getD j 0 = l.getD (lo + j) 0 := by
      simp only [List.getD, List.getElem?_drop, List.getElem?_take]
      rw [if_pos (by omega)]
    rw [hg]
theorem Bs.head {w : World} {ao : Option Addr} {n cap : Nat} {l : List UInt8} (h : Bs w ao n cap l) (k : Nat) (h2 : k ≤ n) : Bs w (cutA ao cap 0) k cap (l.take k) := by
  have := h.cut 0 k (Nat.zero_le _) h2
  simpa using this
theorem Bs.tail {w : World} {ao : Option Addr} {n cap : Nat} {l : List UInt8} (h : Bs w ao n cap l) (k : Nat) (h2 : k ≤ n) : Bs w (cutA ao cap k) (n - k) (cap - k) (l.drop k) := by
  have := h.cut k n h2 (Nat.le_refl _)
  rwa [List.take_of_length_le (by rw [h.1]; exact Nat.le_refl _)] at this

theorem size5 (w : World) : (sizeOf (Try.prog.elem 22)).run Try.prog w = .ok 1 w := by kernel_rfl
theorem slice22 : Try.prog.underlying 22 = some (.slice (Try.prog.elem 22)) := by kernel_rfl
theorem cut_head (ao : Option Addr) (n cap k : Nat) (h : k ≤ cap) (w : World) : (Instr.slice 22 (.slice ao n cap) none (some (.int .i64 k)) none).run Try.prog w = .ok (.slice (cutA ao cap 0) k cap) w := by
  rw [run_slice_h w 22 ao n cap slice22 .i64 (k : Int) (by omega) (by omega), size5]
  simp [sliced, cutA, Result.andThen]
theorem cut_tail (ao : Option Addr) (n cap k : Nat) (h : k ≤ n) (w : World) : (Instr.slice 22 (.slice ao n cap) (some (.int .i64 k)) none none).run Try.prog w = .ok (.slice (cutA ao cap k) (n - k) (cap - k)) w := by
  rw [run_slice_l w 22 ao n cap slice22 .i64 (k : Int) (by omega) (by omega), size5]
  simp [sliced, cutA, Result.andThen]

theorem bal {a w : World} (h : Below a.heap.size a w) (o : Obj) : Below a.heap.size a (w.alloc o) := h.alloc h.size o
theorem cell_new (w : World) (v : Value) (t : TypeId) : (w.alloc (.cells #[v] t)).drew.cell? ⟨w.heap.size, 0, none⟩ = some v := World.cell?_alloc_new w _ _ 0
theorem join1w {W : World} {g : Nat} {a0 : Option Addr} {n0 c0 : Nat} {l0 : List UInt8} (hc : W.cell? ⟨g, 0, none⟩ = some (.slice a0 n0 c0)) (h0 : Bs W a0 n0 c0 l0) (hB : n0 ≤ 140737488355328) :
    Calls Try.prog 20 #[.slice (some ⟨g, 0, none⟩) 1 1] W fun e w' => ∃ ao m cap, e = .returned (.slice ao m cap) ∧ Bs w' ao m cap l0 ∧ Below W.heap.size W w' := by
  refine (join_any _ 1 1 [l0] _ ⟨rfl, fun _ => ⟨g, 0, rfl, fun j hj => ?_⟩⟩ (by decide) (by simp only [List.flatten_cons, List.flatten_nil, List.append_nil]; rw [h0.1]; exact hB)).mono ?_
  · obtain rfl : j = 0 := by omega
    exact ⟨_, _, _, hc, h0⟩
  · rintro e w' ⟨ao, m, cap, he, hb, hbel⟩
    exact ⟨ao, m, cap, he, by simpa using hb, hbel⟩

theorem get_short (ao : Option Addr) (n cap : Nat) (bytes : Int) (l : List UInt8) (w : World) (hb : Bs w ao n cap l) (hB : n ≤ 1000000) (hlt : n < held bytes) :
    Calls Try.prog 10 #[.slice ao n cap, .int .i64 bytes] w fun e w' => ∃ ao m cap, e = .returned (.tuple #[.int .u64 0, .slice ao m cap, .int .i64 10]) ∧ Bs w' ao m cap l ∧ Below w.heap.size w w' := by
  have hh := held_le bytes
  have hi : (n : Int) < (held bytes : Int) := by omega
  go_enter Try.func10, Try.ntmps10
  go_wp2_with (go_at_call 21; refine (held_any bytes _).mono ?_; rintro e w' ⟨rfl, rfl⟩)
  go_wp2_with fail
  refine (join1 hb 22 (by omega)).mono ?_
  rintro e w2 ⟨ao2, m2, c2, rfl, hb2, hbel2⟩
  go_wp2
  go_ret3
  exact ⟨_, _, _, rfl, hb2, hbel2⟩

theorem get_ok (ao : Option Addr) (n cap : Nat) (bytes : Int) (l : List UInt8) (w : World) (hb : Bs w ao n cap l) (hB : n ≤ 1000000) (hle : held bytes ≤ n) :
    Calls Try.prog 10 #[.slice ao n cap, .int .i64 bytes] w fun e w' => ∃ ao m cap, e = .returned (.tuple #[.int .u64 (num (l.take (held bytes))), .slice ao m cap, .int .i64 0]) ∧ Bs w' ao m cap (l.drop (held bytes)) ∧ Below w.heap.size w w' := by
  have hh := held_le bytes
  generalize hk : held bytes = k at *
  have HK : Hid (held bytes = k) := hk
  clear hk
  have hi : ¬ (n : Int) < (k : Int) := by omega
  have hnc := hb.2.1
  have c1 := cut_head ao n cap k (by omega)
  have c2 := cut_tail ao n cap k hle
  have hb1 := hb.head k hle
  have hnk : n - k ≤ 140737488355328 := by omega
  have hb2 := hb.tail k hle
  go_enter Try.func10, Try.ntmps10
  go_wp2_with (go_at_call 21; refine (held_any bytes _).mono ?_; rintro e w' ⟨rfl, rfl⟩; rw [HK.out])
  go_wp2_with fail
  go_region_with (first
    | (go_at_call 22; refine (number_any _ _ _ (l.take k) _ ?_ hh).mono ?_; (refine hb1.later ?_; (repeat (first | exact Below.refl _ _ | apply Below.drew | refine bal ?_ _))); rintro e w' ⟨rfl, rfl⟩)
    | (go_at_call 20; go_must (refine (join1w (a0 := cutA ao cap k) (n0 := n - k) (c0 := cap - k) (l0 := l.drop k) ?_ ?_ ?_).mono ?_; (exact cell_new _ _ _); (refine hb2.later ?_; (repeat (first | exact Below.refl _ _ | apply Below.drew | refine bal ?_ _))); (exact hnk); (rintro e w2 ⟨ao2, m2, c2, rfl, hb3, hbel2⟩))))
  all_goals
    go_wp2
    go_ret3
    exact ⟨_, _, _, rfl, hb3, Below.chain (bal (Below.refl _ _) _).drew hbel2⟩

theorem number_q {w : World} {ao : Option Addr} {n cap N : Nat} {l : List UInt8} (hb : Bs w ao n cap l) (h8 : n ≤ 8) (hN : num l = N) (k : Nat) :
    Calls Try.prog 22 #[.slice ao n cap] (w.drewN k) fun e w'' => e = .returned (.int .u64 N) ∧ ∃ m, w'' = w.drewN m := by
  refine (number_any ao n cap l (w.drewN k) (hb.later (below_drewN (Below.refl _ _) k)) h8).mono ?_
  rintro e w' ⟨rfl, rfl⟩
  exact ⟨by rw [hN], k, rfl⟩

theorem gettext_none (ao : Option Addr) (n cap : Nat) (most : Int) (l : List UInt8) (w : World) (hb : Bs w ao n cap l) (h2 : n < 2) :
    Calls Try.prog 17 #[.slice ao n cap, .int .i64 most] w fun e w' => ∃ ao m cap, e = .returned (.tuple #[.string ⟨#[]⟩, .slice ao m cap, .int .i64 10]) ∧ Bs w' ao m cap l ∧ Below w.heap.size w w' := by
  have hi : (n : Int) < 2 := by omega
  go_enter Try.func17, Try.ntmps17
  go_wp2_with fail
  refine (join1 hb 22 (by omega)).mono ?_
  rintro e w2 ⟨ao2, m2, c2, rfl, hb2, hbel2⟩
  go_wp2
  go_ret3
  exact ⟨_, _, _, rfl, hb2, hbel2⟩

theorem join1q {w : World} {nq : Nat} {a0 : Option Addr} {n0 c0 : Nat} {l0 : List UInt8} (h0 : Bs w a0 n0 c0 l0) (t : TypeId) (hB : n0 ≤ 140737488355328) :
    Calls Try.prog 20 #[.slice (some ⟨w.heap.size, 0, none⟩) 1 1] ((w.drewN nq).alloc (.cells #[.slice a0 n0 c0] t)) fun e w' => ∃ ao m cap, e = .returned (.slice ao m cap) ∧ Bs w' ao m cap l0 ∧ Below w.heap.size w w' := by
  have hb : Below w.heap.size w (w.drewN nq) := below_drewN (Below.refl _ _) nq
  refine (join1 (w := w.drewN nq) (h0.later hb) t hB).mono ?_
  rintro e w' ⟨ao, m, cap, he, h1, h2⟩
  exact ⟨ao, m, cap, he, h1, Below.chain hb h2⟩

theorem gettext_long (ao : Option Addr) (n cap : Nat) (most : Int) (l : List UInt8) (w : World) (hb : Bs w ao n cap l) (hB : n ≤ 1000000) (h2 : 2 ≤ n) (hm : most < num (l.take 2)) :
    Calls Try.prog 17 #[.slice ao n cap, .int .i64 most] w fun e w' => ∃ ao m cap, e = .returned (.tuple #[.string ⟨#[]⟩, .slice ao m cap, .int .i64 11]) ∧ Bs w' ao m cap l ∧ Below w.heap.size w w' := by
  have hi : ¬ (n : Int) < 2 := by omega
  have hnc := hb.2.1
  have c1 : ∀ w : World, (Instr.slice 22 (.slice ao n cap) none (some (.int .i64 2)) none).run Try.prog w = .ok (.slice (cutA ao cap 0) 2 cap) w := cut_head ao n cap 2 (by omega)
  have c2 : ∀ w : World, (Instr.slice 22 (.slice ao n cap) (some (.int .i64 2)) none none).run Try.prog w = .ok (.slice (cutA ao cap 2) (n - 2) (cap - 2)) w := cut_tail ao n cap 2 h2
  have hb1 := hb.head 2 h2
  have hN : num (l.take 2) < 65536 := num_take_lt l 2
  generalize hg : num (l.take 2) = N at *
  have HN : Hid (num (l.take 2) = N) := hg
  clear hg
  go_enter Try.func17, Try.ntmps17
  go_wp2_with fail
  go_quiet ((go_at_call 22; exact number_q hb1 (by decide) HN _))
  go_wp2_with fail
  refine (join1q hb 22 (by omega)).mono ?_
  rintro e w2 ⟨ao2, m2, c2, rfl, hb2, hbel2⟩
  go_wp2
  go_ret3
  exact ⟨_, _, _, rfl, hb2, hbel2⟩

theorem gettext_short (ao : Option Addr) (n cap : Nat) (most : Int) (l : List UInt8) (w : World) (hb : Bs w ao n cap l) (hB : n ≤ 1000000) (h2 : 2 ≤ n) (hm : num (l.take 2) ≤ most) (hs : n - 2 < num (l.take 2)) :
    Calls Try.prog 17 #[.slice ao n cap, .int .i64 most] w fun e w' => ∃ ao m cap, e = .returned (.tuple #[.string ⟨#[]⟩, .slice ao m cap, .int .i64 10]) ∧ Bs w' ao m cap l ∧ Below w.heap.size w w' := by
  have hi : ¬ (n : Int) < 2 := by omega
  have hnc := hb.2.1
  have c1 : ∀ w : World, (Instr.slice 22 (.slice ao n cap) none (some (.int .i64 2)) none).run Try.prog w = .ok (.slice (cutA ao cap 0) 2 cap) w := cut_head ao n cap 2 (by omega)
  have c2 : ∀ w : World, (Instr.slice 22 (.slice ao n cap) (some (.int .i64 2)) none none).run Try.prog w = .ok (.slice (cutA ao cap 2) (n - 2) (cap - 2)) w := cut_tail ao n cap 2 h2
  have hb1 := hb.head 2 h2
  have hN : num (l.take 2) < 65536 := num_take_lt l 2
  generalize hg : num (l.take 2) = N at *
  have HN : Hid (num (l.take 2) = N) := hg
  clear hg
  have hm' : ¬ most < (N : Int) := by omega
  obtain ⟨n2, hn2⟩ : ∃ n2, n - 2 = n2 := ⟨_, rfl⟩
  rw [hn2] at c2 hs
  clear hn2
  have hs' : (n2 : Int) < (N : Int) := by omega
  go_enter Try.func17, Try.ntmps17
  go_wp2_with fail
  go_quiet ((go_at_call 22; exact number_q hb1 (by decide) HN _))
  go_wp2_with fail
  refine (join1q hb 22 (by omega)).mono ?_
  rintro e w2 ⟨ao2, m2, c2, rfl, hb2, hbel2⟩
  go_wp2
  go_ret3
  exact ⟨_, _, _, rfl, hb2, hbel2⟩

/-- A conversion of bytes to a string. -/
theorem conv_string {w : World} {ao : Option Addr} {n cap : Nat} {l : List UInt8} (h : Bs w ao n cap l) : (convert 22 9 (.slice ao n cap)).run Try.prog w = .ok (.string ⟨l.toArray⟩) w := by
  obtain ⟨e1, e2, e3, e4⟩ := h
  cases ao with
  | none =>
    by_cases hc : 0 < cap
    · obtain ⟨_, _, e, _⟩ := e4 hc
      cases e
    · obtain rfl : n = 0 := by omega
      obtain rfl : l = [] := List.eq_nil_of_length_eq_zero e1
      exact run_convert_bytes_nil w 22 5 Try.underlying22 Try.underlying5 0 cap 9 Try.underlying9
  | some a =>
    subst e1
    refine run_convert_bytes_back w 22 9 5 a cap l Try.underlying22 Try.underlying5 Try.underlying9 (fun j hj => ?_)
    obtain ⟨b, off, e, hc⟩ := e4 (by omega)
    cases e
    rw [Addr.add_lit, hc j hj]
    simp [List.getD, hj]

set_option maxHeartbeats 1000000 in
theorem gettext_ok (ao : Option Addr) (n cap : Nat) (most : Int) (l : List UInt8) (w : World) (hb : Bs w ao n cap l) (hB : n ≤ 1000000) (h2 : 2 ≤ n) (hm : num (l.take 2) ≤ most) (hs : num (l.take 2) ≤ n - 2) :
    Calls Try.prog 17 #[.slice ao n cap, .int .i64 most] w fun e w' => ∃ ao m cap, e = .returned (.tuple #[.string ⟨((l.drop 2).take (num (l.take 2))).toArray⟩, .slice ao m cap, .int .i64 0]) ∧ Bs w' ao m cap ((l.drop 2).drop (num (l.take 2))) ∧ Below w.heap.size w w' := by
  have hi : ¬ (n : Int) < 2 := by omega
  have hnc := hb.2.1
  have c1 : ∀ w : World, (Instr.slice 22 (.slice ao n cap) none (some (.int .i64 2)) none).run Try.prog w = .ok (.slice (cutA ao cap 0) 2 cap) w := cut_head ao n cap 2 (by omega)
  have c2 : ∀ w : World, (Instr.slice 22 (.slice ao n cap) (some (.int .i64 2)) none none).run Try.prog w = .ok (.slice (cutA ao cap 2) (n - 2) (cap - 2)) w := cut_tail ao n cap 2 h2
  have hb1 := hb.head 2 h2
  have hb2 := hb.tail 2 h2
  have hN : num (l.take 2) < 65536 := num_take_lt l 2
  generalize hg : num (l.take 2) = N at *
  have HN : Hid (num (l.take 2) = N) := hg
  clear hg
  have hm' : ¬ most < (N : Int) := by omega
  obtain ⟨n2, hn2⟩ : ∃ n2, n - 2 = n2 := ⟨_, rfl⟩
  have hn2' : n2 ≤ 1000000 := by omega
  rw [hn2] at c2 hs hb2
  clear hn2
  generalize cap - 2 = cap2 at *
  generalize cutA ao cap 2 = ao2 at *
  generalize l.drop 2 = l2 at *
  have hs' : ¬ (n2 : Int) < (N : Int) := by omega
  have hnc2 := hb2.2.1
  have c3 := cut_head ao2 n2 cap2 N (by omega)
  have c4 := cut_tail ao2 n2 cap2 N hs
  have hb3 := hb2.head N hs
  have hb4 := hb2.tail N hs
  have hnk : n2 - N ≤ 140737488355328 := by omega
  have B0 : ∀ k, Below w.heap.size w (w.drewN k) := fun k => below_drewN (Below.refl _ _) k
  have B1 : ∀ (W : World) o, Below w.heap.size w W → Below w.heap.size w (W.alloc o) := fun W o h => bal h o
  have B2 : ∀ W : World, Below w.heap.size w W → Below w.heap.size w W.drew := fun W h => h.drew
  have hconv : ∀ W : World, Below w.heap.size w W → (convert 22 9 (.slice (cutA ao2 cap2 0) N cap2)).run Try.prog W = .ok (.string ⟨(l2.take N).toArray⟩) W := fun W h => conv_string (hb3.later h)
  go_enter Try.func17, Try.ntmps17
  go_wp2_with fail
  go_quiet ((go_at_call 22; exact number_q hb1 (by decide) HN _))
  go_wp2_with fail
  go_region_with ((go_at_call 20; go_must (refine (join1w (a0 := cutA ao2 cap2 N) (n0 := n2 - N) (c0 := cap2 - N) (l0 := l2.drop N) ?_ ?_ ?_).mono ?_; (exact cell_new _ _ _); (refine hb4.later ?_; (repeat (first | exact B0 _ | exact Below.refl _ _ | apply Below.drew | refine bal ?_ _))); (exact hnk); (rintro e w2 ⟨ao3, m3, c3, rfl, hb5, hbel2⟩; have hbel3 := Below.chain (bal (B0 _) _) hbel2))))
  all_goals
    go_wp2
    go_ret3
    exact ⟨_, _, _, rfl, hb5, hbel3⟩
end Go.Proofs.Yteajcgodfbaeiaa
