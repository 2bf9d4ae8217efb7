/- What is handed in: slices of samples out of their readings. -/
import Derived.Test.YtcbjhfnlhpallaaGreatDoorEOpen
import Derived.Test.YtcbjhfnlhpallaaGreatDoorEPrints
namespace Go.Proofs.YtcbjhfnlhpallaaGreatDoor
open Go.ChangeShapes Go.WideShapes Go.ChangeAt Go.RowKit Go.Deep

theorem labs_of {H : Type} {enc : TypeId × Value → H} {W : World} {v : Value} {k : Nat} {x : DataW H × List MemPlace} (h : DataW.trod enc Tryz.prog W 0 (fun _ => true) true k 30 [v] = some x) :
    ∃ la lc l, v = .slice la l.length lc ∧ Ps W la l.length l ∧ Fit l ∧ l.length ≤ 9223372036854775807 := by
  have hv : ∃ la n lc, v = .slice la n lc := by
    rcases open_slice Tryz.underlying30 h with ⟨hcs, _⟩ | ⟨a, len', cap', m, n, D, Pl, hcs, _⟩
    · simp at hcs
      exact ⟨_, _, _, hcs⟩
    · simp at hcs
      exact ⟨_, _, _, hcs⟩
  obtain ⟨la, n, lc, rfl⟩ := hv
  obtain ⟨l, hp, hf, hn, _⟩ := pairs_of (xa := la) (len := n) (cap := lc) ⟨k, h⟩
  obtain rfl := hp.1
  exact ⟨la, lc, l, rfl, hp, hf, hn⟩
theorem r64_of {n : Int} (h : (Lit.int .i64 n).wf = true) : Fx.R64 n := by simpa [Fx.R64, Lit.wf, IntKind.min, IntKind.max, IntKind.signed, IntKind.bits] using h
set_option maxRecDepth 100000 in
set_option maxHeartbeats 1000000 in
theorem scrap_of {H : Type} {enc : TypeId × Value → H} {W : World} {a : Addr} {cs : List Value} {k : Nat} {x : DataW H × List MemPlace} (h1 : W.cells? 0 a 6 = some cs) (h2 : DataW.trod enc Tryz.prog W 0 (fun _ => true) true k 34 cs = some x) :
    ∃ r : Scr, (∃ la lc, Ps W la r.ls.length r.ls ∧ W.cell? a = some (.slice la r.ls.length lc) ∧ W.cell? (a.add 1) = some (.bool r.ov) ∧ W.cell? (a.add 2) = some (.int .i64 r.n) ∧ W.cell? (a.add 3) = some (.int .i64 r.t) ∧ W.cell? (a.add 4) = some (.bool r.has) ∧ W.cell? (a.add 5) = some (.int .i64 r.kind)) ∧ r.ls.length ≤ 9223372036854775807 ∧ Fit r.ls ∧ Fx.R64 r.n ∧ Fx.R64 r.t ∧ Fx.R64 r.kind := by
  obtain ⟨_, hlen, hcell⟩ := World.cells?_some h1
  obtain ⟨v0, v1, v2, v3, v4, v5, rfl⟩ : ∃ v0 v1 v2 v3 v4 v5, cs = [v0, v1, v2, v3, v4, v5] := by
    match cs, hlen with
    | [v0, v1, v2, v3, v4, v5], _ => exact ⟨v0, v1, v2, v3, v4, v5, rfl⟩
  obtain ⟨xs, k', _, _, _, hxl, hfs⟩ := DataW.trod_struct Tryz.underlying34 h2
  obtain ⟨y0, y1, y2, y3, y4, rfl⟩ : ∃ y0 y1 y2 y3 y4, xs = [y0, y1, y2, y3, y4] := by
    match xs, hxl with
    | [y0, y1, y2, y3, y4], _ => exact ⟨y0, y1, y2, y3, y4, rfl⟩
  have g0 := hfs 0 _ rfl
  have g1 := hfs 1 _ rfl
  have g2 := hfs 2 _ rfl
  have g3 := hfs 3 _ rfl
  have g4 := hfs 4 _ rfl
  have k0 : Tryz.prog.cellsOf 30 = 1 := by kernel_rfl
  have k1 : Tryz.prog.cellsOf 32 = 2 := by kernel_rfl
  have k2 : Tryz.prog.cellsOf 3 = 1 := by kernel_rfl
  have k3 : Tryz.prog.cellsOf 4 = 1 := by kernel_rfl
  have k4 : Tryz.prog.cellsOf 2 = 1 := by kernel_rfl
  simp [k0, k1, k2, k3] at g0 g1 g2 g3 g4
  obtain ⟨ys, k'', _, _, _, hyl, hgs⟩ := DataW.trod_struct Tryz.underlying32 g1
  obtain ⟨u0, u1, rfl⟩ : ∃ u0 u1, ys = [u0, u1] := by
    match ys, hyl with
    | [u0, u1], _ => exact ⟨u0, u1, rfl⟩
  have m0 := hgs 0 _ rfl
  have m1 := hgs 1 _ rfl
  simp [k3, k4] at m0 m1
  have e0 := hcell 0 (by omega)
  have e1 := hcell 1 (by omega)
  have e2 := hcell 2 (by omega)
  have e3 := hcell 3 (by omega)
  have e4 := hcell 4 (by omega)
  have e5 := hcell 5 (by omega)
  obtain ⟨la, lc, l, rfl, hp, hf, hn⟩ := labs_of g0
  obtain ⟨o1, z1, _⟩ := DataW.trod_bool Tryz.underlying4 m0
  obtain ⟨n2, z2, _, b2⟩ := DataW.trod_int Tryz.underlying2 m1
  obtain ⟨n3, z3, _, b3⟩ := DataW.trod_int Tryz.underlying3 g2
  obtain ⟨o4, z4, _⟩ := DataW.trod_bool Tryz.underlying4 g3
  obtain ⟨n5, z5, _, b5⟩ := DataW.trod_int Tryz.underlying3 g4
  simp at z1 z2 z3 z4 z5
  subst z1 z2 z3 z4 z5
  refine ⟨⟨l, o1, n2, n3, o4, n5⟩, ⟨la, lc, hp, ?_, ?_, ?_, ?_, ?_, ?_⟩, hn, hf, r64_of b2, r64_of b3, r64_of b5⟩
  · simpa [Addr.add] using e0
  · simpa using e1
  · simpa using e2
  · simpa using e3
  · simpa using e4
  · simpa using e5
theorem scraps_of {H : Type} {enc : TypeId × Value → H} {W : World} {xa : Option Addr} {len cap : Nat} {x : DataW H × List MemPlace}
    (h : ∃ fuel, DataW.trod enc Tryz.prog W 0 (fun _ => true) true fuel 23 (Value.slice xa len cap).cells.toList = some x) :
    ∃ l, Xs W xa len l ∧ Wf0 l ∧ len ≤ 9223372036854775807 := by
  obtain ⟨fuel, hf⟩ := h
  rcases open_slice Tryz.underlying23 hf with ⟨hcs, _⟩ | ⟨a, len', cap', m, n, D, Pl, hcs, _, hl, hm, hmm, _, hel⟩
  · simp [Value.cells] at hcs
    obtain ⟨rfl, rfl, rfl⟩ := hcs
    exact ⟨[], ⟨rfl, fun h => by omega⟩, (by intro x hx; cases hx), by omega⟩
  · simp [Value.cells] at hcs
    obtain ⟨rfl, rfl, rfl⟩ := hcs
    have hm' : m = cap := by simpa using hmm
    subst hm'
    have ce : Tryz.prog.cellsOf 34 = 6 := by kernel_rfl
    obtain ⟨f, hfp⟩ := @choose_lt Scr ⟨scr0⟩ len (fun i r => (∃ la lc, Ps W la r.ls.length r.ls ∧ W.cell? (a.add (i * 6)) = some (.slice la r.ls.length lc) ∧ W.cell? ((a.add (i * 6)).add 1) = some (.bool r.ov) ∧ W.cell? ((a.add (i * 6)).add 2) = some (.int .i64 r.n) ∧ W.cell? ((a.add (i * 6)).add 3) = some (.int .i64 r.t) ∧ W.cell? ((a.add (i * 6)).add 4) = some (.bool r.has) ∧ W.cell? ((a.add (i * 6)).add 5) = some (.int .i64 r.kind)) ∧ r.ls.length ≤ 9223372036854775807 ∧ Fit r.ls ∧ Fx.R64 r.n ∧ Fx.R64 r.t ∧ Fx.R64 r.kind) (fun i hi => by
      obtain ⟨cs', h1, h2⟩ := hel i (by omega)
      rw [ce] at h1
      exact scrap_of h1 h2)
    refine ⟨(List.range len).map f, ⟨by simp, fun hp => ?_⟩, ?_, by unfold maxLen at hm; omega⟩
    · obtain ⟨b, off, spot⟩ := a
      obtain ⟨_, _, _, hc, _⟩ := (hfp 0 (by omega)).1
      have hspot : spot = none := by simpa [Addr.add] using World.cell?_spot hc
      subst hspot
      refine ⟨b, off, rfl, fun j hj => ?_⟩
      obtain ⟨⟨la, lc, hp', e0, e1, e2, e3, e4, e5⟩, _⟩ := hfp j hj
      simp only [Addr.add_lit] at e0 e1 e2 e3 e4 e5
      have e : ((List.range len).map f).getD j scr0 = f j := by simp [List.getD, hj]
      rw [e]
      exact ⟨la, lc, hp', e0, e1, e2, e3, e4, e5⟩
    · intro x hx
      obtain ⟨i, hi, rfl⟩ := List.mem_map.1 hx
      exact (hfp i (List.mem_range.1 hi)).2
end Go.Proofs.YtcbjhfnlhpallaaGreatDoor
