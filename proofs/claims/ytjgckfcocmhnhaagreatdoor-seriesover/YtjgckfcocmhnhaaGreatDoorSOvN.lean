/- A slice of numbers that is handed in, out of its reading. -/
import Derived.Test.YtjgckfcocmhnhaaGreatDoorSOpen
import Derived.Test.YtjgckfcocmhnhaaGreatDoorMA
namespace Go.Proofs.YtjgckfcocmhnhaaGreatDoor
open Go.ChangeShapes Go.WideShapes Go.ChangeAt Go.RowKit Go.Deep

theorem nums_of {H : Type} {enc : TypeId × Value → H} {W : World} {xa : Option Addr} {len cap : Nat} {x : DataW H × List MemPlace}
    (h : ∃ fuel, DataW.trod enc Tryz.prog W 0 (fun _ => true) true fuel 50 (Value.slice xa len cap).cells.toList = some x) :
    ∃ l, Ns W xa len l ∧ (∀ x ∈ l, -9223372036854775808 ≤ x.2 ∧ x.2 ≤ 9223372036854775807) ∧ len ≤ maxLen := by
  obtain ⟨fuel, hf⟩ := h
  rcases open_slice_pairs Tryz.underlying50 Tryz.underlying33 (by kernel_rfl) rfl rfl (by kernel_rfl) (by kernel_rfl) hf with ⟨hcs, hx⟩ | ⟨a, len', cap', m, n, V0, V1, D0, D1, P0, P1, hcs, _, hl, hm, hmm, hx, hel⟩
  · simp [Value.cells] at hcs
    obtain ⟨rfl, rfl, rfl⟩ := hcs
    exact ⟨[], ⟨rfl, fun h => by omega⟩, (by intro x hx; cases hx), by unfold maxLen; omega⟩
  · simp [Value.cells] at hcs
    obtain ⟨rfl, rfl, rfl⟩ := hcs
    have hm' : m = cap := by simpa using hmm
    subst hm'
    obtain ⟨f, hfp⟩ := choose_lt (α := Bool × Int) (n := len) (p := fun i t => V0 i = .bool t.1 ∧ V1 i = .int .i64 t.2 ∧ -9223372036854775808 ≤ t.2 ∧ t.2 ≤ 9223372036854775807) (fun i hi => by
      obtain ⟨_, _, z0, z1⟩ := hel i (by omega)
      obtain ⟨o, e0, _⟩ := DataW.trod_bool Tryz.underlying4 z0
      obtain ⟨k, e1, _, wk⟩ := DataW.trod_int Tryz.underlying2 z1
      have b0 : -9223372036854775808 ≤ k ∧ k ≤ 9223372036854775807 := by simpa [Lit.wf, IntKind.min, IntKind.max, IntKind.signed, IntKind.bits] using wk
      simp at e0 e1
      exact ⟨(o, k), e0, e1, b0.1, b0.2⟩)
    refine ⟨(List.range len).map f, ⟨by simp, fun hp => ?_⟩, ?_, by omega⟩
    · obtain ⟨b, off, spot⟩ := a
      have hc := (hel 0 (by omega)).1
      have hspot : spot = none := by simpa [Addr.add] using World.cell?_spot hc
      subst hspot
      refine ⟨b, off, rfl, fun j hj => ?_⟩
      obtain ⟨e1, e2, _⟩ := hfp j hj
      obtain ⟨q0, q1, _, _⟩ := hel j (by omega)
      rw [Addr.add_lit, e1] at q0
      rw [Addr.add_lit, e2] at q1
      have e : ((List.range len).map f).getD j (false, 0) = f j := by simp [List.getD, hj]
      rw [e]
      exact ⟨q0, q1⟩
    · intro x hx
      obtain ⟨i, hi, rfl⟩ := List.mem_map.1 hx
      exact (hfp i (List.mem_range.1 hi)).2.2
end Go.Proofs.YtjgckfcocmhnhaaGreatDoor
