/- A slice of int32s, of numbers, that is handed in, out of its reading. -/
import Derived.Test.YtchopogodfghoaaROpen
import Derived.Test.YtchopogodfghoaaRMeanW
namespace Go.Proofs.Ytchopogodfghoaa
open Go.ChangeShapes Go.WideShapes Go.ChangeAt Go.RowKit Go.Deep

theorem i32s_of {H : Type} {enc : TypeId × Value → H} {W : World} {xa : Option Addr} {len cap : Nat} {x : DataW H × List MemPlace}
    (h : ∃ fuel, DataW.trod enc Try.prog W 0 (fun _ => true) true fuel 61 (Value.slice xa len cap).cells.toList = some x) :
    ∃ l, Is32 W xa len l ∧ I32 l ∧ len ≤ maxLen := by
  obtain ⟨fuel, hf⟩ := h
  rcases open_ints Try.underlying61 Try.underlying21 (by kernel_rfl) hf with ⟨hcs, hx⟩ | ⟨a, len', cap', zs, hcs, _, hl, hm, hlen, hx, hel, hw⟩
  · simp [Value.cells] at hcs
    obtain ⟨rfl, rfl, rfl⟩ := hcs
    exact ⟨[], ⟨rfl, fun h => by omega⟩, (by intro x hx; cases hx), by unfold maxLen; omega⟩
  · simp [Value.cells] at hcs
    obtain ⟨rfl, rfl, rfl⟩ := hcs
    have hss : len ≤ zs.length := by rw [hlen]; split <;> omega
    have hat : ∀ j, j < len → (zs.take len).getD j 0 = zs.getD j 0 := fun j hj => by
      rw [List.getD_eq_getElem?_getD, List.getD_eq_getElem?_getD, List.getElem?_take_of_lt hj]
    refine ⟨zs.take len, ⟨by rw [List.length_take]; omega, fun hp => ?_⟩, fun x hx => ?_, by omega⟩
    · obtain ⟨b, off, spot⟩ := a
      have hc := hel 0 (by omega)
      have hspot : spot = none := by simpa [Addr.add] using World.cell?_spot hc
      subst hspot
      refine ⟨b, off, rfl, fun j hj => ?_⟩
      have q0 := hel j (by omega)
      rw [Addr.add_lit] at q0
      rw [q0, hat j hj]
    · have hwf := hw x (List.mem_of_mem_take hx)
      simpa [Lit.wf, IntKind.min, IntKind.max, IntKind.signed, IntKind.bits] using hwf
end Go.Proofs.Ytchopogodfghoaa
