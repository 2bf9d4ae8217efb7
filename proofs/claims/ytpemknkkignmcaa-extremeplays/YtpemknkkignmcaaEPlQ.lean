/- The law's own greatest, or least, of what a window holds. -/
import Derived.Test.YtpemknkkignmcaaEStep
namespace Go.Proofs.Ytpemknkkignmcaa
open Go.RowKit

theorem rext_all (v : Value) (base : Nat) (g : Bool) (l : List Smp) (w : World) (hv : OwnN w base v (l.map nv)) (hn : l.length ≤ 1000) (h3 : ∀ s ∈ l, nrm s = s) (hr : ∀ s ∈ l, R64 s.2.2) :
    Calls Try.prog 12 #[v, .bool g] w fun e w' => e = .returned (.tuple #[.agg #[.bool (bst g l).2.1, .int .i64 (bst g l).2.2], .bool (!l.isEmpty)]) ∧ Below w.heap.size w w' := by
  obtain ⟨ao, cap, rfl, hs⟩ := hv.slice
  have hl : (l.map nv).length = l.length := List.length_map _
  rw [hl] at hs ⊢
  cases hle : l with
  | nil => exact rext_nil cap ao g w
  | cons a r =>
    rw [← hle]
    have hne : l ≠ [] := by rw [hle]; intro e; cases e
    have hpos := List.length_pos_iff.2 hne
    have he : l.isEmpty = false := by rw [hle]; rfl
    rw [he]
    refine (rext_any ao l.length cap (l.map nv) g w ⟨hpos, hn⟩ hs (fun x hx => by
      obtain ⟨s, hs, rfl⟩ := List.mem_map.1 hx
      exact nv_r64 s (hr s hs))).mono fun e w' ⟨p, hp, hm, h1, h2⟩ => ⟨?_, h2⟩
    rw [h1, ← ext_eq g l hne h3 hr p hp hm]
    rfl
theorem St.wf {w : World} {b : Nat} {l : List Smp} {k now : Int} {g : Bool} (h : St w b l k now g) : Wf l k now := h.f
end Go.Proofs.Ytpemknkkignmcaa
