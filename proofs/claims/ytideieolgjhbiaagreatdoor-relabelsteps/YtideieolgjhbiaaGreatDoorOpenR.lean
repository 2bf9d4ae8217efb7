/- What is handed in: slices of rules out of their readings. -/
import Derived.Test.YtideieolgjhbiaaGreatDoorOpen
namespace Go.Proofs.YtideieolgjhbiaaGreatDoor
open Go.ChangeShapes Go.WideShapes Go.ChangeAt Go.RowKit Go.Deep

set_option maxRecDepth 100000 in
set_option maxHeartbeats 1000000 in
theorem rule_of {H : Type} {enc : TypeId × Value → H} {W : World} {a : Addr} {cs : List Value} {k : Nat} {x : DataW H × List MemPlace} (h1 : W.cells? 0 a 6 = some cs) (h2 : DataW.trod enc Tryz.prog W 0 (fun _ => true) true k 35 cs = some x) :
    ∃ r : Rl, (W.cell? a = some (.int .i64 r.act) ∧ W.cell? (a.add 1) = some (tx r.frm.name) ∧ W.cell? (a.add 2) = some (.int .i64 r.frm.kind) ∧ W.cell? (a.add 3) = some (tx r.frm.text) ∧ W.cell? (a.add 4) = some (tx r.tgt) ∧ W.cell? (a.add 5) = some (tx r.txt)) ∧ FitR r := by
  obtain ⟨_, hlen, hcell⟩ := World.cells?_some h1
  obtain ⟨v0, v1, v2, v3, v4, v5, rfl⟩ : ∃ v0 v1 v2 v3 v4 v5, cs = [v0, v1, v2, v3, v4, v5] := by
    match cs, hlen with
    | [v0, v1, v2, v3, v4, v5], _ => exact ⟨v0, v1, v2, v3, v4, v5, rfl⟩
  obtain ⟨xs, k', _, _, _, hxl, hfs⟩ := DataW.trod_struct Tryz.underlying35 h2
  obtain ⟨y0, y1, y2, y3, rfl⟩ : ∃ y0 y1 y2 y3, xs = [y0, y1, y2, y3] := by
    match xs, hxl with
    | [y0, y1, y2, y3], _ => exact ⟨y0, y1, y2, y3, rfl⟩
  have g0 := hfs 0 _ rfl
  have g1 := hfs 1 _ rfl
  have g2 := hfs 2 _ rfl
  have g3 := hfs 3 _ rfl
  have k0 : Tryz.prog.cellsOf 9 = 1 := by kernel_rfl
  have k1 : Tryz.prog.cellsOf 3 = 1 := by kernel_rfl
  have k2 : Tryz.prog.cellsOf 33 = 3 := by kernel_rfl
  simp [k0, k1, k2] at g0 g1 g2 g3
  obtain ⟨ys, k'', _, _, _, hyl, hgs⟩ := DataW.trod_struct Tryz.underlying33 g1
  obtain ⟨u0, u1, u2, rfl⟩ : ∃ u0 u1 u2, ys = [u0, u1, u2] := by
    match ys, hyl with
    | [u0, u1, u2], _ => exact ⟨u0, u1, u2, rfl⟩
  have m0 := hgs 0 _ rfl
  have m1 := hgs 1 _ rfl
  have m2 := hgs 2 _ rfl
  simp [k0, k1] at m0 m1 m2
  have e0 := hcell 0 (by omega)
  have e1 := hcell 1 (by omega)
  have e2 := hcell 2 (by omega)
  have e3 := hcell 3 (by omega)
  have e4 := hcell 4 (by omega)
  have e5 := hcell 5 (by omega)
  obtain ⟨n0, z0, _, _⟩ := DataW.trod_int Tryz.underlying3 g0
  obtain ⟨s1, z1, _, b1⟩ := DataW.trod_string Tryz.underlying9 m0
  obtain ⟨n2, z2, _, _⟩ := DataW.trod_int Tryz.underlying3 m1
  obtain ⟨s3, z3, _, b3⟩ := DataW.trod_string Tryz.underlying9 m2
  obtain ⟨s4, z4, _, b4⟩ := DataW.trod_string Tryz.underlying9 g2
  obtain ⟨s5, z5, _, b5⟩ := DataW.trod_string Tryz.underlying9 g3
  obtain ⟨l1, q1, w1⟩ := tx_of s1
  obtain ⟨l3, q3, w3⟩ := tx_of s3
  obtain ⟨l4, q4, w4⟩ := tx_of s4
  obtain ⟨l5, q5, w5⟩ := tx_of s5
  unfold maxLen at b1 b3 b4 b5
  simp at z0 z1 z2 z3 z4 z5
  subst z0 z1 z2 z3 z4 z5
  refine ⟨⟨n0, ⟨l1, n2, l3⟩, l4, l5⟩, ⟨?_, ?_, ?_, ?_, ?_, ?_⟩, ?_, ?_, ?_, ?_⟩
  · simpa [Addr.add] using e0
  · show _ = some (Value.string ⟨l1.toArray⟩); rw [q1]; simpa using e1
  · simpa using e2
  · show _ = some (Value.string ⟨l3.toArray⟩); rw [q3]; simpa using e3
  · show _ = some (Value.string ⟨l4.toArray⟩); rw [q4]; simpa using e4
  · show _ = some (Value.string ⟨l5.toArray⟩); rw [q5]; simpa using e5
  · show l1.length ≤ _; omega
  · show l3.length ≤ _; omega
  · show l4.length ≤ _; omega
  · show l5.length ≤ _; omega
theorem rules_of {H : Type} {enc : TypeId × Value → H} {W : World} {xa : Option Addr} {len cap : Nat} {x : DataW H × List MemPlace}
    (h : ∃ fuel, DataW.trod enc Tryz.prog W 0 (fun _ => true) true fuel 23 (Value.slice xa len cap).cells.toList = some x) :
    ∃ l, Rs W xa len l ∧ FitRs l ∧ len ≤ 9223372036854775807 ∧ len ≤ cap := by
  obtain ⟨fuel, hf⟩ := h
  rcases open_slice Tryz.underlying23 hf with ⟨hcs, _⟩ | ⟨a, len', cap', m, n, D, Pl, hcs, _, hl, hm, hmm, _, hel⟩
  · simp [Value.cells] at hcs
    obtain ⟨rfl, rfl, rfl⟩ := hcs
    exact ⟨[], ⟨rfl, fun h => by omega⟩, (by intro x hx; cases hx), by omega, by omega⟩
  · simp [Value.cells] at hcs
    obtain ⟨rfl, rfl, rfl⟩ := hcs
    have hm' : m = cap := by simpa using hmm
    subst hm'
    have ce : Tryz.prog.cellsOf 35 = 6 := by kernel_rfl
    obtain ⟨f, hfp⟩ := @choose_lt Rl ⟨rl0⟩ len (fun i r => (W.cell? (a.add (i * 6)) = some (.int .i64 r.act) ∧ W.cell? ((a.add (i * 6)).add 1) = some (tx r.frm.name) ∧ W.cell? ((a.add (i * 6)).add 2) = some (.int .i64 r.frm.kind) ∧ W.cell? ((a.add (i * 6)).add 3) = some (tx r.frm.text) ∧ W.cell? ((a.add (i * 6)).add 4) = some (tx r.tgt) ∧ W.cell? ((a.add (i * 6)).add 5) = some (tx r.txt)) ∧ FitR r) (fun i hi => by
      obtain ⟨cs', h1, h2⟩ := hel i (by omega)
      rw [ce] at h1
      exact rule_of h1 h2)
    refine ⟨(List.range len).map f, ⟨by simp, fun hp => ?_⟩, ?_, by unfold maxLen at hm; omega, hl⟩
    · obtain ⟨b, off, spot⟩ := a
      have hc := (hfp 0 (by omega)).1.1
      have hspot : spot = none := by simpa [Addr.add] using World.cell?_spot hc
      subst hspot
      refine ⟨b, off, rfl, fun j hj => ?_⟩
      obtain ⟨⟨e0, e1, e2, e3, e4, e5⟩, _⟩ := hfp j hj
      simp only [Addr.add_lit] at e0 e1 e2 e3 e4 e5
      have e : ((List.range len).map f).getD j rl0 = f j := by simp [List.getD, hj]
      rw [e]
      exact ⟨e0, e1, e2, e3, e4, e5⟩
    · intro x hx
      obtain ⟨i, hi, rfl⟩ := List.mem_map.1 hx
      exact (hfp i (List.mem_range.1 hi)).2
end Go.Proofs.YtideieolgjhbiaaGreatDoor
