/- The contract of Join: pieces one behind the other, in new memory. -/
import Derived.Test.YteajcgodfbaeiaaLow
namespace Go.Proofs.Yteajcgodfbaeiaa
open Go.RowKit

/-- What was read as bytes is read so as long as the old blocks stand. -/
theorem Bs.later {w w' : World} {ao : Option Addr} {n cap : Nat} {l : List UInt8} (h : Bs w ao n cap l) (hb : Below w.heap.size w w') : Bs w' ao n cap l := by
  obtain ⟨h1, h2, h3, h4⟩ := h
  refine ⟨h1, h2, h3, fun hp => ?_⟩
  obtain ⟨b, off, e, hc⟩ := h4 hp
  exact ⟨b, off, e, fun j hj => (hb.cell (p := ⟨b, off + j, none⟩) (World.block_lt_of_cell? _ _ (hc j hj))).trans (hc j hj)⟩

theorem Below.chain {a b c : World} (h : Below a.heap.size a b) (k : Below b.heap.size b c) : Below a.heap.size a c := h.trans (k.mono h.size)

/-- A slice of slices of bytes. -/
def Bss (w : World) (xa : Option Addr) (n : Nat) (ls : List (List UInt8)) : Prop :=
  ls.length = n ∧ (0 < n → ∃ b off, xa = some ⟨b, off, none⟩ ∧ ∀ j, j < n → ∃ ao m c, w.cell? ⟨b, off + j, none⟩ = some (.slice ao m c) ∧ Bs w ao m c (ls.getD j []))

theorem take_snocL {ls : List (List UInt8)} {k : Nat} (h : k < ls.length) : (ls.take (k + 1)).flatten = (ls.take k).flatten ++ ls.getD k [] := by
  have e : ls.take (k + 1) = ls.take k ++ [ls.getD k []] := by
    rw [List.take_add_one, List.getElem?_eq_getElem h]
    simp [List.getD, h]
  rw [e, List.flatten_append]
  simp
theorem Bs.none {w : World} {n cap : Nat} {l : List UInt8} (h : Bs w none n cap l) : n = 0 ∧ cap = 0 := by
  obtain ⟨_, h2, _, h4⟩ := h
  by_cases hc : 0 < cap
  · obtain ⟨_, _, e, _⟩ := h4 hc
    cases e
  · omega
theorem Bs.at {w : World} {ad : Addr} {n cap : Nat} {l : List UInt8} (h : Bs w (some ad) n cap l) : ∀ j u, (cells l)[j]? = some u → w.cell? (ad.add j) = some u := by
  obtain ⟨h1, h2, _, h4⟩ := h
  intro j u hu
  by_cases hj : j < n
  · obtain ⟨b, off, e, hc⟩ := h4 (by omega)
    cases e
    rw [cells_get (by omega)] at hu
    rw [← hu, ← hc j hj, Addr.add_lit]
  · rw [List.getElem?_eq_none (by rw [cells_length]; omega)] at hu
    cases hu
theorem Bs.of_row {w : World} {base g n cap : Nat} {l : List UInt8} (h : w.ownsRow base 5 1 (.slice (some ⟨g, 0, Option.none⟩) n cap) n (cells l)) : Bs w (some ⟨g, 0, Option.none⟩) n cap l := by
  have hl := h.1
  rw [cells_length] at hl
  refine ⟨by omega, ?_, ?_, fun _ => ⟨g, 0, rfl, fun j hj => ?_⟩⟩
  · rcases h.2 with ⟨e, _⟩ | ⟨_, _, _, e, _, _, h1, _⟩
    · cases e
    · cases e; exact h1
  · rcases h.2 with ⟨e, _⟩ | ⟨_, _, _, e, _, _, _, h1, _⟩
    · cases e
    · cases e; exact h1
  · rw [Nat.zero_add, h.cellAt j (by omega), cells_get (by omega)]
theorem take_le (ls : List (List UInt8)) (k : Nat) : (ls.take k).flatten.length ≤ ls.flatten.length := by
  conv => rhs; rw [← List.take_append_drop k ls]
  rw [List.flatten_append, List.length_append]
  omega
theorem cells_append (l m : List UInt8) : cells (l ++ m) = cells l ++ cells m := by simp [cells]
theorem cells_one (l : List UInt8) : ∀ u ∈ cells l, u.oneCell' = true := by
  intro u hu
  obtain ⟨_, _, rfl⟩ := List.mem_map.1 hu
  rfl

set_option maxHeartbeats 400000 in
theorem join_any (xa : Option Addr) (n xc : Nat) (ls : List (List UInt8)) (w : World) (hs : Bss w xa n ls) (hn : n ≤ maxLen) (hB : ls.flatten.length ≤ 140737488355328) :
    Calls Try.prog 20 #[.slice xa n xc] w fun e w' => ∃ ao m cap, e = .returned (.slice ao m cap) ∧ Bs w' ao m cap ls.flatten ∧ Below w.heap.size w w' := by
  obtain ⟨i0, hi, hz0, hz1, hz2⟩ := info_parts info5
  obtain ⟨hl, hcell⟩ := hs
  unfold maxLen at hn
  have HL : Hid (ls.length = n) := hl
  clear hl
  go_enter Try.func20, Try.ntmps20
  go_wp2
  go_loop [3, 11] (fun r i => ∃ k : Nat, k ≤ n ∧ i = .int .i64 k ∧ r = .int .i64 (ls.take k).flatten.length) (fun _ i => n - (intOf i).toNat)
  case atStart => exact ⟨0, by omega, rfl, by simp⟩
  case round =>
    obtain ⟨k, hk, rfl, rfl⟩ := hrel
    have hle := take_le ls k
    by_cases hlt : k < n
    · obtain ⟨b, off, rfl, hc⟩ := hcell (by omega)
      obtain ⟨ao, m, c, hck, hbs⟩ := hc k hlt
      have hle1 := take_le ls (k + 1)
      have hsn : (ls.take (k + 1)).flatten.length = (ls.take k).flatten.length + m := by
        rw [take_snocL (by rw [HL.out]; exact hlt), List.length_append, hbs.1]
      rw [hsn] at hle1
      have HS : Hid _ := hsn
      clear hsn hcell hc hbs
      generalize (ls.take k).flatten.length = r at *
      go_wp2
      go_round
      case rel => exact ⟨k + 1, by omega, by go_num, by rw [HS.out]; go_num⟩
      case measure => simp [intOf]; omega
    · obtain rfl : k = n := by omega
      have HT : Hid ((ls.take k).flatten = ls.flatten) := by
        show _ = _
        rw [List.take_of_length_le (by rw [HL.out]; omega)]
      rw [HT.out]
      clear HT hle
      generalize hN : ls.flatten.length = N at *
      have HN : Hid (ls.flatten.length = N) := hN
      clear hN
      go_wp2_with (at_make; go_must (refine wpList_make_own _ rfl _ _ 22 rfl w.heap.size 5 i0 (.int .u8 0) 1 Try.underlying22 hi hz0 hz1 _ _ _ N rfl rfl rfl (by rw [hz2]; omega) (by unfold maxLen; omega) (Nat.le_refl _) ?_))
      intro w1 hown hgr
      have hb1 : Below w.heap.size w w1 := (Below.refl _ _).grown hgr (Nat.le_refl _) (fun k h => by cases h)
      go_wp2
      go_loopw [6, 24] (fun v i wr => ∃ j : Nat, j ≤ k ∧ i = .int .i64 j ∧ v = .slice (some ⟨w.heap.size, 0, none⟩) (ls.take j).flatten.length N ∧ wr.ownsRow w.heap.size 5 1 (.slice (some ⟨w.heap.size, 0, none⟩) (ls.take j).flatten.length N) (ls.take j).flatten.length (cells (ls.take j).flatten) ∧ Below w.heap.size w wr) (fun _ i _ => k - (intOf i).toNat)
      case atStart => exact ⟨0, by omega, rfl, by simp, by simpa [cells] using hown, hb1⟩
      case round =>
        obtain ⟨j, hj, rfl, rfl, ho, hb⟩ := hrel
        by_cases hlt : j < k
        · obtain ⟨b, off, rfl, hc⟩ := hcell (by omega)
          obtain ⟨ao, m, c, hck, hbs⟩ := hc j hlt
          have hck' : wr.cell? ⟨b, off + j, none⟩ = some (.slice ao m c) := (hb.cell (p := ⟨b, off + j, none⟩) (World.block_lt_of_cell? _ _ hck)).trans hck
          have hle1 := take_le ls (j + 1)
          have hsn : (ls.take (j + 1)).flatten = (ls.take j).flatten ++ ls.getD j [] := take_snocL (by rw [HL.out]; exact hlt)
          have hm := hbs.1
          have hbs' := hbs.later hb
          have hle2 : (ls.take j).flatten.length + m ≤ N := by rw [← HN.out, ← hm, ← List.length_append, ← hsn]; exact hle1
          have HS : Hid _ := hsn
          clear hsn hcell hc hle1 hck
          have HM : Hid _ := hm
          clear hm hbs
          generalize ls.getD j [] = q at *
          generalize hR : (ls.take j).flatten = R at *
          have HR : Hid _ := hR
          clear hR
          go_wp2_with (at_builtin; go_must (refine wpList_append_fits_any _ rfl _ _ 22 rfl w.heap.size 5 i0 1 Try.underlying22 hi hz1 w.heap.size R.length N (cells R) rfl ho ao m c (cells q) rfl (by rw [cells_length, HM.out]; omega) ?hnone ?hc (cells_one q) hle2 ?_))
          case hnone => rintro rfl; exact hbs'.none
          case hc => rintro ad rfl; exact hbs'.at
          intro w2 ho2 hg2
          go_wp2
          go_roundw
          case rel =>
            rw [← cells_append] at ho2
            refine ⟨j + 1, by omega, by go_num, ?_, ?_, hb.grown hg2 hb.size (fun i e => by cases e; exact Nat.le_refl _)⟩
            · rw [HS.out, List.length_append, HM.out]
            · rw [HS.out, List.length_append, HM.out]
              exact ho2
          case measure => simp [intOf]; omega
        · obtain rfl : j = k := by omega
          have e : (ls.take j).flatten = ls.flatten := by rw [List.take_of_length_le (by rw [HL.out]; omega)]
          rw [e] at ho
          rw [e]
          go_wp2
          go_ret
          exact ⟨_, _, _, rfl, Bs.of_row ho, hb⟩
end Go.Proofs.Yteajcgodfbaeiaa
