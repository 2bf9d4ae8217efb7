/- Whom a later one beats. -/
import Derived.Test.YtpemknkkignmcaaEOne
namespace Go.Proofs.Ytpemknkkignmcaa
open Go.RowKit

theorem place_cell (b o i : Nat) (w : World) (h1 : w.cell? ⟨b, 300, none⟩ = some (.int .i64 o)) (ho : o < 100) (hi : i ≤ 100) :
    Calls Try.prog 32 #[.pointer (some ⟨b, 0, none⟩), .int .i64 i] w fun e w' => e = .returned (.int .i64 ((o + i) % 100 : Nat)) ∧ w = w' := by
  have e1 : wrap64 ((o : Int) + i) = (o : Int) + i := by unfold wrap64; omega
  go_enter Try.func32, Try.ntmps32
  go_wp2
  go_ret
  exact ⟨ret_int (by omega), rfl⟩
set_option maxHeartbeats 1000000 in
theorem beat_G (p : Nat) (s : Smp) (t : Int) (o : Bool) (n : Int) (w : World) (h : BoxS w p s) (hn : R64 n) (hs : R64 s.2.2) :
    Calls Try.prog 34 #[.agg #[.bool o, .int .i64 n], .pointer (some ⟨p, 0, none⟩)] w fun e w' => e = .returned (.bool (decide (kg true (t, o, n) ≤ kg true s))) ∧ Below w.heap.size w w' := by
  obtain ⟨st, so, sn⟩ := s
  have hs : R64 sn := hs
  have hb1 := bal (Below.refl _ w) (.cells #[.bool o, .int .i64 n] 28)
  obtain ⟨c0, c1, c2, _, _, _⟩ := h.later hb1
  have hy := Box.new w o n
  obtain ⟨d0, d1, _, _⟩ := id hy
  have hc := fun W => cmp_any o so n sn W hn hs
  have HK : Hid (decide (fCmp (cnt o n) (cnt so sn) ≤ 0) = decide (kg true (t, o, n) ≤ kg true (st, so, sn))) := by
    have hv := cmp_ky (V.cnt (o := o) hn.1 hn.2) (V.cnt (o := so) hs.1 hs.2)
    show decide _ = decide ((if true = true then ky (cnt o n) else - ky (cnt o n)) ≤ (if true = true then ky (cnt so sn) else - ky (cnt so sn)))
    rw [if_pos rfl, if_pos rfl]
    exact decide_eq_decide.2 hv.1
  generalize fCmp (cnt o n) (cnt so sn) = c at *
  go_enter Try.func34, Try.ntmps34
  go_wp2_with fail
  refine (hc _).mono ?_
  rintro e w1 ⟨rfl, hb2⟩
  go_wp2
  go_ret
  exact ⟨by rw [← HK.out]; rfl, Below.chain hb1 hb2⟩
set_option maxHeartbeats 1000000 in
theorem beat_L (p : Nat) (s : Smp) (t : Int) (o : Bool) (n : Int) (w : World) (h : BoxS w p s) (hn : R64 n) (hs : R64 s.2.2) :
    Calls Try.prog 35 #[.agg #[.bool o, .int .i64 n], .pointer (some ⟨p, 0, none⟩)] w fun e w' => e = .returned (.bool (decide (kg false (t, o, n) ≤ kg false s))) ∧ Below w.heap.size w w' := by
  obtain ⟨st, so, sn⟩ := s
  have hs : R64 sn := hs
  have hb1 := bal (Below.refl _ w) (.cells #[.bool o, .int .i64 n] 28)
  obtain ⟨c0, c1, c2, _, _, _⟩ := h.later hb1
  have hy := Box.new w o n
  obtain ⟨d0, d1, _, _⟩ := id hy
  have hc := fun W => cmp_any o so n sn W hn hs
  have HK : Hid (decide (fCmp (cnt o n) (cnt so sn) ≥ 0) = decide (kg false (t, o, n) ≤ kg false (st, so, sn))) := by
    have hv := cmp_ky (V.cnt (o := o) hn.1 hn.2) (V.cnt (o := so) hs.1 hs.2)
    show decide _ = decide ((if false = true then ky (cnt o n) else - ky (cnt o n)) ≤ (if false = true then ky (cnt so sn) else - ky (cnt so sn)))
    rw [if_neg (by decide), if_neg (by decide)]
    exact decide_eq_decide.2 (hv.2.trans ⟨fun h => by omega, fun h => by omega⟩)
  generalize fCmp (cnt o n) (cnt so sn) = c at *
  go_enter Try.func35, Try.ntmps35
  go_wp2_with fail
  refine (hc _).mono ?_
  rintro e w1 ⟨rfl, hb2⟩
  go_wp2
  go_ret
  exact ⟨by rw [← HK.out]; rfl, Below.chain hb1 hb2⟩
end Go.Proofs.Ytpemknkkignmcaa
