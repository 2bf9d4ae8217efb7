/- A slice of steps that is handed in, out of its reading. -/
import Derived.Test.YthcakiibkocheaaCOpen
import Derived.Test.YthcakiibkocheaaCStep
namespace Go.Proofs.Ythcakiibkocheaa
open Go.ChangeShapes Go.WideShapes Go.ChangeAt Go.RowKit Go.Deep

set_option maxRecDepth 100000 in
set_option maxHeartbeats 1000000 in
theorem step_of {H : Type} {enc : TypeId × Value → H} {W : World} {a : Addr} {cs : List Value} {k : Nat} {x : DataW H × List MemPlace} (h1 : W.cells? 0 a 4 = some cs) (h2 : DataW.trod enc Try.prog W 0 (fun _ => true) true k 30 cs = some x) :
    ∃ r : Stp, (W.cell? a = some (.bool r.1) ∧ W.cell? (a.add 1) = some (.int .i64 r.2.1) ∧ W.cell? (a.add 2) = some (.bool r.2.2.1) ∧ W.cell? (a.add 3) = some (.int .i64 r.2.2.2)) ∧ R64 r.2.1 ∧ R64 r.2.2.2 := by
  obtain ⟨_, hlen, hcell⟩ := World.cells?_some h1
  obtain ⟨v0, v1, v2, v3, rfl⟩ : ∃ v0 v1 v2 v3, cs = [v0, v1, v2, v3] := by
    match cs, hlen with
    | [v0, v1, v2, v3], _ => exact ⟨v0, v1, v2, v3, rfl⟩
  obtain ⟨xs, k', _, _, _, hxl, hfs⟩ := DataW.trod_struct Try.underlying30 h2
  obtain ⟨y0, y1, y2, rfl⟩ : ∃ y0 y1 y2, xs = [y0, y1, y2] := by
    match xs, hxl with
    | [y0, y1, y2], _ => exact ⟨y0, y1, y2, rfl⟩
  have g0 := hfs 0 _ rfl
  have g1 := hfs 1 _ rfl
  have g2 := hfs 2 _ rfl
  have k0 : Try.prog.cellsOf 4 = 1 := by kernel_rfl
  have k1 : Try.prog.cellsOf 3 = 1 := by kernel_rfl
  have k2 : Try.prog.cellsOf 28 = 2 := by kernel_rfl
  have k3 : Try.prog.cellsOf 2 = 1 := by kernel_rfl
  simp [k0, k1, k2] at g0 g1 g2
  obtain ⟨ys, k'', _, _, _, hyl, hgs⟩ := DataW.trod_struct Try.underlying28 g2
  obtain ⟨u0, u1, rfl⟩ : ∃ u0 u1, ys = [u0, u1] := by
    match ys, hyl with
    | [u0, u1], _ => exact ⟨u0, u1, rfl⟩
  have m0 := hgs 0 _ rfl
  have m1 := hgs 1 _ rfl
  simp [k0, k3] at m0 m1
  have e0 := hcell 0 (by omega)
  have e1 := hcell 1 (by omega)
  have e2 := hcell 2 (by omega)
  have e3 := hcell 3 (by omega)
  obtain ⟨o0, z0, _⟩ := DataW.trod_bool Try.underlying4 g0
  obtain ⟨n1, z1, _, w1⟩ := DataW.trod_int Try.underlying3 g1
  obtain ⟨o2, z2, _⟩ := DataW.trod_bool Try.underlying4 m0
  obtain ⟨n3, z3, _, w3⟩ := DataW.trod_int Try.underlying2 m1
  have b1 : -9223372036854775808 ≤ n1 ∧ n1 ≤ 9223372036854775807 := by simpa [Lit.wf, IntKind.min, IntKind.max, IntKind.signed, IntKind.bits] using w1
  have b3 : -9223372036854775808 ≤ n3 ∧ n3 ≤ 9223372036854775807 := by simpa [Lit.wf, IntKind.min, IntKind.max, IntKind.signed, IntKind.bits] using w3
  simp at z0 z1 z2 z3
  subst z0 z1 z2 z3
  exact ⟨(o0, n1, o2, n3), ⟨by simpa [Addr.add] using e0, by simpa using e1, by simpa using e2, by simpa using e3⟩, b1, b3⟩
theorem steps_of {H : Type} {enc : TypeId × Value → H} {W : World} {xa : Option Addr} {len cap : Nat} {x : DataW H × List MemPlace}
    (h : ∃ fuel, DataW.trod enc Try.prog W 0 (fun _ => true) true fuel 22 (Value.slice xa len cap).cells.toList = some x) :
    ∃ l, Ss W xa len l ∧ FitS l ∧ len ≤ maxLen := by
  obtain ⟨fuel, hf⟩ := h
  rcases open_slice Try.underlying22 hf with ⟨hcs, _⟩ | ⟨a, len', cap', m, n, D, Pl, hcs, _, hl, hm, hmm, _, hel⟩
  · simp [Value.cells] at hcs
    obtain ⟨rfl, rfl, rfl⟩ := hcs
    exact ⟨[], ⟨rfl, fun h => by omega⟩, (by intro x hx; cases hx), by unfold maxLen; omega⟩
  · simp [Value.cells] at hcs
    obtain ⟨rfl, rfl, rfl⟩ := hcs
    have hm' : m = cap := by simpa using hmm
    subst hm'
    have ce : Try.prog.cellsOf 30 = 4 := by kernel_rfl
    obtain ⟨f, hfp⟩ := @choose_lt Stp ⟨st0⟩ len (fun i r => (W.cell? (a.add (i * 4)) = some (.bool r.1) ∧ W.cell? ((a.add (i * 4)).add 1) = some (.int .i64 r.2.1) ∧ W.cell? ((a.add (i * 4)).add 2) = some (.bool r.2.2.1) ∧ W.cell? ((a.add (i * 4)).add 3) = some (.int .i64 r.2.2.2)) ∧ R64 r.2.1 ∧ R64 r.2.2.2) (fun i hi => by
      obtain ⟨cs', h1, h2⟩ := hel i (by omega)
      rw [ce] at h1
      exact step_of h1 h2)
    refine ⟨(List.range len).map f, ⟨by simp, fun hp => ?_⟩, ?_, by omega⟩
    · obtain ⟨b, off, spot⟩ := a
      have hc := (hfp 0 (by omega)).1.1
      have hspot : spot = none := by simpa [Addr.add] using World.cell?_spot hc
      subst hspot
      refine ⟨b, off, rfl, fun j hj => ?_⟩
      obtain ⟨⟨e0, e1, e2, e3⟩, _⟩ := hfp j hj
      simp only [Addr.add_lit] at e0 e1 e2 e3
      have e : ((List.range len).map f).getD j st0 = f j := by simp [List.getD, hj]
      rw [e]
      exact ⟨e0, e1, e2, e3⟩
    · intro x hx
      obtain ⟨i, hi, rfl⟩ := List.mem_map.1 hx
      exact (hfp i (List.mem_range.1 hi)).2
end Go.Proofs.Ythcakiibkocheaa
