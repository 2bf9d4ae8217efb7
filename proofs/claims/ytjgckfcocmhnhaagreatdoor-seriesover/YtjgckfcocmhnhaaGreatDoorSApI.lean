/- A slice of small whole numbers that is read. -/
import Derived.Test.YtjgckfcocmhnhaaGreatDoorSOpen
namespace Go.Proofs.YtjgckfcocmhnhaaGreatDoor
open Go.ChangeShapes Go.WideShapes Go.ChangeAt Go.RowKit Go.Deep

/-- A slice that reads as these. -/
def Ik (w : World) (K : IntKind) (ao : Option Addr) (n : Nat) (u : List Nat) : Prop :=
  u.length = n ∧ (0 < n → ∃ b off, ao = some ⟨b, off, none⟩ ∧ ∀ j, j < n → w.cell? ⟨b, off + j, none⟩ = some (.int K ((u.getD j 0 : Nat) : Int)))
theorem Ik.read {w : World} {K : IntKind} {ao : Option Addr} {n : Nat} {u : List Nat} (h : Ik w K ao n u) (hp : 0 < n) : ∃ b off, ao = some ⟨b, off, none⟩ ∧ ∀ W, Below w.heap.size w W → ∀ j, j < n → W.cell? ⟨b, off + j, none⟩ = some (.int K ((u.getD j 0 : Nat) : Int)) := by
  obtain ⟨b, off, e, hc⟩ := h.2 hp
  exact ⟨b, off, e, fun W hW j hj => (hW.cell (World.block_lt_of_cell? _ _ (hc j hj))).trans (hc j hj)⟩
theorem getD_le {u : List Nat} {M : Nat} (h : ∀ x ∈ u, x ≤ M) (j : Nat) : u.getD j 0 ≤ M := by
  rw [List.getD_eq_getElem?_getD]
  cases e : u[j]? with
  | none => exact Nat.zero_le _
  | some x => exact h x (List.mem_of_getElem? e)
theorem ik_of {W : World} {K : IntKind} {a : Addr} {len : Nat} {zs : List Int} {M : Nat} (hss : len ≤ zs.length) (hel : ∀ j, j < len → W.cell? (a.add j) = some (.int K (zs.getD j 0))) (hr : ∀ x ∈ zs, 0 ≤ x ∧ x ≤ M) :
    ∃ u, Ik W K (some a) len u ∧ ∀ x ∈ u, x ≤ M := by
  have hg : ∀ j, j < len → zs.getD j 0 = ((((zs.take len).map Int.toNat).getD j 0 : Nat) : Int) := fun j hj => by
    have hj2 : j < zs.length := by omega
    rw [List.getD_eq_getElem?_getD, List.getD_eq_getElem?_getD, List.getElem?_map, List.getElem?_take_of_lt hj, List.getElem?_eq_getElem hj2]
    have := hr _ (List.getElem_mem hj2)
    show zs[j] = ((zs[j].toNat : Nat) : Int)
    omega
  refine ⟨(zs.take len).map Int.toNat, ⟨by rw [List.length_map, List.length_take]; omega, fun hp => ?_⟩, fun x hx => ?_⟩
  · obtain ⟨b, off, spot⟩ := a
    have hc := hel 0 hp
    have hspot : spot = none := by simpa [Addr.add] using World.cell?_spot hc
    subst hspot
    refine ⟨b, off, rfl, fun j hj => ?_⟩
    have q0 := hel j hj
    rw [Addr.add_lit] at q0
    rw [q0, hg j hj]
  · obtain ⟨y, hy, rfl⟩ := List.mem_map.1 hx
    have := hr y (List.mem_of_mem_take hy)
    omega
theorem u8s_of {H : Type} {enc : TypeId × Value → H} {W : World} {xa : Option Addr} {len cap : Nat} {x : DataW H × List MemPlace}
    (h : ∃ fuel, DataW.trod enc Tryz.prog W 0 (fun _ => true) true fuel 47 (Value.slice xa len cap).cells.toList = some x) :
    ∃ u, Ik W .u8 xa len u ∧ (∀ x ∈ u, x ≤ 255) ∧ len ≤ maxLen := by
  obtain ⟨fuel, hf⟩ := h
  rcases open_ints Tryz.underlying47 Tryz.underlying5 (by kernel_rfl) hf with ⟨hcs, hx⟩ | ⟨a, len', cap', zs, hcs, _, hl, hm, hlen, hx, hel, hw⟩
  · simp [Value.cells] at hcs
    obtain ⟨rfl, rfl, rfl⟩ := hcs
    exact ⟨[], ⟨rfl, fun h => by omega⟩, (by intro x hx; cases hx), by unfold maxLen; omega⟩
  · simp [Value.cells] at hcs
    obtain ⟨rfl, rfl, rfl⟩ := hcs
    have hss : len ≤ zs.length := by rw [hlen]; split <;> omega
    obtain ⟨u, h1, h2⟩ := ik_of (M := 255) hss (fun j hj => hel j (by omega)) (fun x hx => by
      have hwf := hw x hx
      simpa [Lit.wf, IntKind.min, IntKind.max, IntKind.signed, IntKind.bits] using hwf)
    exact ⟨u, h1, h2, by omega⟩
end Go.Proofs.YtjgckfcocmhnhaaGreatDoor
