/- The document's own Norm, Values, Whole. -/
import Derived.Test.YthcakiibkocheaaCRow
import Derived.Test.YthcakiibkocheaaRefIs
import Derived.Test.YthcakiibkocheaaRefMul
namespace Go.Proofs.Ythcakiibkocheaa
open Go.RowKit

theorem wf64 {x : Int} (h0 : -9223372036854775808 ≤ x) (h1 : x ≤ 9223372036854775807) : wrap64 x = x := by unfold wrap64; omega
theorem fOf_small (x : Int) (h0 : -100000 ≤ x) (h1 : x ≤ 100000) : fOf x = some (x * 1000000) := by
  unfold fOf norm
  rw [if_pos (by omega)]

set_option maxHeartbeats 1000000 in
theorem rnorm_any (o : Bool) (n : Int) (w : World) (h : R64 n) : Calls Try.prog 11 #[.agg #[.bool o, .int .i64 n]] w fun e w' => e = .returned (.agg #[.bool (ov (cnt o n)), .int .i64 (nn (cnt o n))]) ∧ Below w.heap.size w w' := by
  obtain ⟨hx1, hy, hb2⟩ := boxes1 w o n
  cases hi : fIs o n with
  | true =>
    obtain ⟨e1, e2⟩ := is_cnt hi
    rw [e1, e2]
    go_enter Try.func11, Try.ntmps11
    go_wp2_with fail
    refine (ris_all _ _ _ h.1).mono ?_
    rintro e w1 ⟨rfl, hb3⟩
    rw [hi]
    obtain ⟨c0, c1, f0, f1⟩ := hx1.later hb3
    obtain ⟨d0, d1, g0, g1⟩ := hy.later hb3
    obtain ⟨p0, p1, _, _⟩ := (hy.later hb3).put (p := o) (m := n)
    go_wp2
    exact bodyPost_ret (v := .agg #[.bool o, .int .i64 n]) (by simp [results, Try.results11, go_sem, p0, p1]) rfl ⟨rfl, put2 (Below.chain hb2 hb3) (by omega) _ _⟩
  | false =>
    rw [isnt_cnt h.1 hi]
    go_enter Try.func11, Try.ntmps11
    go_wp2_with fail
    refine (ris_all _ _ _ h.1).mono ?_
    rintro e w1 ⟨rfl, hb3⟩
    rw [hi]
    go_wp2_with fail
    refine (ovf_any _).mono ?_
    rintro e w2 ⟨rfl, hb4⟩
    have hb5 := Below.chain hb3 hb4
    obtain ⟨d0, d1, g0, g1⟩ := hy.later hb5
    obtain ⟨p0, p1, _, _⟩ := (hy.later hb5).put (p := true) (m := 0)
    go_wp2
    exact bodyPost_ret (v := .agg #[.bool true, .int .i64 0]) (by simp [results, Try.results11, go_sem, p0, p1]) rfl ⟨rfl, put2 (Below.chain hb2 hb5) (by omega) _ _⟩

/-- A sample's value as it counts. -/
def nv (s : Smp) : Bool × Int := (ov (cnt s.2.1 s.2.2), nn (cnt s.2.1 s.2.2))
theorem nv_take {l : List Smp} {j : Nat} (h : j < l.length) : (l.take (j + 1)).map nv = (l.take j).map nv ++ [nv (l.getD j s0)] := by
  rw [take_snocS h]
  simp
theorem nv_cnts (l : List Smp) (h : ∀ s ∈ l, R64 s.2.2) : cnts (l.map nv) = cnts (vls l) := by
  induction l with
  | nil => rfl
  | cons s r ih =>
    have h1 := h s List.mem_cons_self
    show cnt (nv s).1 (nv s).2 :: cnts (r.map nv) = cnt s.2.1 s.2.2 :: cnts (vls r)
    rw [ih (fun x hx => h x (List.mem_cons_of_mem _ hx))]
    congr 1
    exact cnt_val (V.cnt h1.1 h1.2)
theorem nv_r64 (s : Smp) (h : R64 s.2.2) : R64 (nv s).2 := nrm_r64 s h
theorem getD_memS {l : List Smp} {j : Nat} (h : j < l.length) : l.getD j s0 ∈ l := by
  rw [List.getD_eq_getElem?_getD, List.getElem?_eq_getElem h]
  exact List.getElem_mem h
theorem whole_any (n : Int) (w : World) (hn : R64 n) : Calls Try.prog 17 #[.int .i64 n] w fun e w' => e = .returned (.agg #[.bool (ov (fOf n)), .int .i64 (nn (fOf n))]) ∧ Below w.heap.size w w' := by
  have hb0 := bal (Below.refl _ w) (.cells #[.bool false, .int .i64 0] 28)
  have hx0 := Box.new w false 0
  have ho := fun W => rof_any n W hn
  generalize ov (fOf n) = fo at *
  generalize nn (fOf n) = fn at *
  go_enter Try.func17, Try.ntmps17
  go_wp2_with fail
  refine (ho _).mono ?_
  rintro e w1 ⟨rfl, hb1⟩
  have hx1 := hx0.later hb1
  obtain ⟨c0, c1, g0, g1⟩ := id hx1
  obtain ⟨p0, p1, _, _⟩ := hx1.put (p := fo) (m := fn)
  go_wp2
  exact bodyPost_ret (v := .agg #[.bool fo, .int .i64 fn]) (by simp [results, Try.results17, go_sem, p0, p1]) rfl ⟨rfl, put2 (Below.chain hb0 hb1) (Nat.le_refl _) _ _⟩
end Go.Proofs.Ythcakiibkocheaa
