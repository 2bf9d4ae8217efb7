/- isReset, rise: of every two numbers. -/
import Derived.Test.YthcakiibkocheaaCIncV
import Derived.Test.YthcakiibkocheaaCmp
import Derived.Test.YthcakiibkocheaaSub
namespace Go.Proofs.Ythcakiibkocheaa
open Go.RowKit

theorem reset_any (o p : Bool) (n m : Int) (w : World) (hn : R64 n) (hm : R64 m) : Calls Try.prog 34 #[.agg #[.bool o, .int .i64 n], .agg #[.bool p, .int .i64 m]] w fun e w' => e = .returned (.bool (decide (fCmp (cnt p m) (cnt o n) < 0))) ∧ Below w.heap.size w w' := by
  obtain ⟨hx, hy, hb⟩ := boxes2 w o p n m
  have hc := fun W => cmp_any p o m n W hm hn
  generalize fCmp (cnt p m) (cnt o n) = r at *
  go_enter Try.func34, Try.ntmps34
  go_wp2_with fail
  refine (hc _).mono ?_
  rintro e w2 ⟨rfl, hb2⟩
  go_wp2
  go_ret
  exact ⟨rfl, Below.chain hb hb2⟩
theorem reset_plain {o p : Bool} {n m : Int} (h : fCmp (cnt p m) (cnt o n) < 0) : ov (cnt p m) = p ∧ nn (cnt p m) = m := by
  unfold cnt at *
  by_cases e : p = true ∨ m = -9223372036854775808
  · rw [if_pos e] at h
    exfalso
    by_cases e2 : o = true ∨ n = -9223372036854775808
    · rw [if_pos e2] at h; exact absurd h (by decide)
    · rw [if_neg e2] at h; exact absurd (show (1 : Int) < 0 from h) (by omega)
  · rw [if_neg e]
    cases p with
    | true => exact absurd (Or.inl rfl) e
    | false => exact ⟨rfl, rfl⟩
set_option maxHeartbeats 1000000 in
theorem rise_any (o p : Bool) (n m : Int) (w : World) (hn : R64 n) (hm : R64 m) : Calls Try.prog 35 #[.agg #[.bool o, .int .i64 n], .agg #[.bool p, .int .i64 m]] w fun e w' => e = .returned (.agg #[.bool (incN (o, n) (p, m)).1, .int .i64 (incN (o, n) (p, m)).2]) ∧ Below w.heap.size w w' := by
  obtain ⟨hx, hy, hz, hb⟩ := boxes3 w o p false n m 0
  have hc := fun W => reset_any o p n m W hn hm
  by_cases h : fCmp (cnt p m) (cnt o n) < 0
  · obtain ⟨e1, e2⟩ := reset_plain h
    have e3 : incN (o, n) (p, m) = (p, m) := by
      show (ov (incO _ _), nn (incO _ _)) = _
      unfold incO
      rw [if_pos h]
      show (ov (cnt p m), nn (cnt p m)) = _
      rw [e1, e2]
    rw [e3]
    rw [decide_eq_true h] at hc
    clear h e1 e2 e3
    go_enter Try.func35, Try.ntmps35
    go_wp2_with fail
    generalize ((w.alloc (.cells #[.bool o, .int .i64 n] 28)).alloc (.cells #[.bool p, .int .i64 m] 28)).alloc (.cells #[.bool false, .int .i64 0] 28) = w1 at *
    refine (hc _).mono ?_
    rintro e w2 ⟨rfl, hb2⟩
    obtain ⟨d0, d1, g0, g1⟩ := hy.later hb2
    obtain ⟨c0, c1, f0, f1⟩ := hz.later hb2
    obtain ⟨p0, p1, _, _⟩ := (hz.later hb2).put (p := p) (m := m)
    go_wp2
    exact bodyPost_ret (v := .agg #[.bool p, .int .i64 m]) (by simp [results, Try.results35, go_sem, p0, p1]) rfl ⟨rfl, put2 (Below.chain hb hb2) (by omega) _ _⟩
  · have e3 : incN (o, n) (p, m) = (ov (fAdd (cnt p m) (fNeg (cnt o n))), nn (fAdd (cnt p m) (fNeg (cnt o n)))) := by
      show (ov (incO _ _), nn (incO _ _)) = _
      unfold incO
      rw [if_neg h]
    rw [e3]
    rw [decide_eq_false h] at hc
    have hs := fun W => sub_any p o m n W hm hn
    generalize ov (fAdd (cnt p m) (fNeg (cnt o n))) = fo at *
    generalize nn (fAdd (cnt p m) (fNeg (cnt o n))) = fn at *
    clear h e3
    go_enter Try.func35, Try.ntmps35
    go_wp2_with fail
    generalize ((w.alloc (.cells #[.bool o, .int .i64 n] 28)).alloc (.cells #[.bool p, .int .i64 m] 28)).alloc (.cells #[.bool false, .int .i64 0] 28) = w1 at *
    refine (hc _).mono ?_
    rintro e w2 ⟨rfl, hb2⟩
    obtain ⟨d0, d1, g0, g1⟩ := hy.later hb2
    obtain ⟨x0, x1, _, _⟩ := hx.later hb2
    go_wp2_with fail
    refine (hs _).mono ?_
    rintro e w3 ⟨rfl, hb3⟩
    have hz3 := (hz.later hb2).later hb3
    obtain ⟨c0, c1, f0, f1⟩ := id hz3
    obtain ⟨p0, p1, _, _⟩ := hz3.put (p := fo) (m := fn)
    go_wp2
    exact bodyPost_ret (v := .agg #[.bool fo, .int .i64 fn]) (by simp [results, Try.results35, go_sem, p0, p1]) rfl ⟨rfl, put2 (Below.chain (Below.chain hb hb2) hb3) (by omega) _ _⟩
end Go.Proofs.Ythcakiibkocheaa
