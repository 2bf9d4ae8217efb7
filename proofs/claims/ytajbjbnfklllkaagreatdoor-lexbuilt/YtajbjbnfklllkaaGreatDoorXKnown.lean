/- known: it answers true. -/
import Derived.Test.YtajbjbnfklllkaaGreatDoorXKnownP
namespace Go.Proofs.YtajbjbnfklllkaaGreatDoor
open Go.RowKit

set_option maxHeartbeats 4000000 in
theorem known_any (w : World) (he : Ev w) : Calls Tryz.prog 8 #[] w fun e w' => e = .returned (.bool true) ∧ Below w.heap.size w w' := by
  have h1 := scan_any kS w (by decide) he
  rw [k_scan.1, k_scan.2.1, k_scan.2.2] at h1
  unfold kS at h1
  have h2 := fun W (hW : Ev W) => scan_any [97, 32, 36] W (by decide) hW
  rw [k_bad.1, k_bad.2.1, k_bad.2.2] at h2
  go_enter Tryz.func8, Tryz.ntmps8
  go_wp2_with fail
  refine h1.mono ?_
  rintro e w1 ⟨v1, rfl, ho1, hb1⟩
  go_wp2_with fail
  refine (h2 _ (he.later hb1)).mono ?_
  rintro e w2 ⟨v2, rfl, ho2, hb2⟩
  obtain ⟨ao, cap, rfl, hts, hc, hg⟩ := (ho1.later hb2).slice
  have hN : kL.length = 10 := rfl
  rw [hN] at hts hc ⊢
  obtain ⟨b, o, rfl, _⟩ := hts.2 (by omega)
  obtain ⟨g, e0, _, _⟩ := hg _ rfl
  injection e0 with e1 e2 _
  subst e1 e2
  have x4 := hts.at 4 (by omega)
  have x7 := hts.at 7 (by omega)
  have x8 := hts.at 8 (by omega)
  have x9 := hts.at 9 (by omega)
  have c24 : w2.cell? ⟨b, 24, none⟩ = some (.int .i64 3) := x4.1
  have c29 : w2.cell? ⟨b, 29, none⟩ = some (.int .i64 5) := x4.2.2.2.2.2
  have c44 : w2.cell? ⟨b, 44, none⟩ = some (.string ⟨#[62, 61]⟩) := x7.2.2.1
  have c52 : w2.cell? ⟨b, 52, none⟩ = some (.int .i64 1500000) := x8.2.2.2.2.1
  have c54 : w2.cell? ⟨b, 54, none⟩ = some (.int .i64 0) := x9.1
  have hp := print_any (some ⟨b, 0, none⟩) 10 cap kL w2 (by omega) hts (fun x hx => by
    unfold kL at hx
    simp only [List.mem_cons, List.not_mem_nil, or_false] at hx
    rcases hx with rfl | rfl | rfl | rfl | rfl | rfl | rfl | rfl | rfl | rfl <;> exact ⟨by decide, by decide, by decide, by decide, by decide⟩) (by rw [k_print]; decide) ((he.later hb1).later hb2)
  rw [k_print] at hp
  clear x4 x7 x8 x9 ho1 ho2 hts hN h1 h2
  go_wp2_with fail
  refine hp.mono ?_
  rintro e w3 ⟨rfl, hb3⟩
  go_wp2
  go_ret
  exact ⟨rfl, Below.chain (Below.chain hb1 hb2) hb3⟩
end Go.Proofs.YtajbjbnfklllkaaGreatDoor
