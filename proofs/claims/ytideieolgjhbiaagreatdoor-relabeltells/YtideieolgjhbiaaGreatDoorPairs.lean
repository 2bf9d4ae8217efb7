/- Slices of pairs; same, big, Get: each for every slice. -/
import Derived.Test.YtideieolgjhbiaaGreatDoorName
import Derived.Test.YtideieolgjhbiaaGreatDoorMore
import Derived.BigQuiet
import Derived.Laws.StructEq
namespace Go.Proofs.YtideieolgjhbiaaGreatDoor
open Go.RowKit

/-- A text as the model has it. -/
abbrev tx (s : Str) : Value := .string ⟨s.toArray⟩
/-- A slice of pairs: as many as are told. -/
def Ps (w : World) (ao : Option Addr) (n : Nat) (l : List Pr) : Prop :=
  l.length = n ∧ (0 < n → ∃ b off, ao = some ⟨b, off, none⟩ ∧ ∀ j, j < n → w.cell? ⟨b, off + j * 2, none⟩ = some (tx (l.getD j ([], [])).1) ∧ w.cell? ⟨b, off + j * 2 + 1, none⟩ = some (tx (l.getD j ([], [])).2))
theorem Ps.later {w w' : World} {ao : Option Addr} {n : Nat} {l : List Pr} (h : Ps w ao n l) (hb : Below w.heap.size w w') : Ps w' ao n l := by
  obtain ⟨h1, h4⟩ := h
  refine ⟨h1, fun hp => ?_⟩
  obtain ⟨b, off, e, hc⟩ := h4 hp
  exact ⟨b, off, e, fun j hj => ⟨(hb.cell (p := ⟨b, off + j * 2, none⟩) (World.block_lt_of_cell? _ _ (hc j hj).1)).trans (hc j hj).1, (hb.cell (p := ⟨b, off + j * 2 + 1, none⟩) (World.block_lt_of_cell? _ _ (hc j hj).2)).trans (hc j hj).2⟩⟩
theorem Ps.nil (w : World) (ao : Option Addr) : Ps w ao 0 [] := ⟨rfl, fun h => by omega⟩
/-- No text is longer than a text can be. -/
def Fit (l : List Pr) : Prop := ∀ p ∈ l, p.1.length ≤ 9223372036854775807 ∧ p.2.length ≤ 9223372036854775807
theorem Fit.at {l : List Pr} (h : Fit l) (j : Nat) : (l.getD j ([], [])).1.length ≤ 9223372036854775807 ∧ (l.getD j ([], [])).2.length ≤ 9223372036854775807 := by
  by_cases hj : j < l.length
  · rw [List.getD, List.getElem?_eq_getElem hj]
    exact h _ (List.getElem_mem hj)
  · rw [List.getD, List.getElem?_eq_none (by omega)]
    simp

/-- A pair that lies in a block of its own. -/
structure Box (w : World) (b : Nat) (p : Pr) : Prop where
  c0 : w.cell? ⟨b, 0, none⟩ = some (tx p.1)
  c1 : w.cell? ⟨b, 1, none⟩ = some (tx p.2)
  f0 : w.frozen? ⟨b, 0, none⟩ = false
  f1 : w.frozen? ⟨b, 1, none⟩ = false
theorem Box.new (w : World) (p : Pr) : Box (w.alloc (.cells #[tx p.1, tx p.2] 44)) w.heap.size p := by
  constructor <;> simp [go_sem]
theorem Box.later {w w' : World} {b : Nat} {p : Pr} (h : Box w b p) (hb : Below w.heap.size w w') : Box w' b p := by
  have hl : b < w.heap.size := World.block_lt_of_cell? _ _ h.c0
  exact ⟨(hb.cell (p := ⟨b, 0, none⟩) hl).trans h.c0, (hb.cell (p := ⟨b, 1, none⟩) hl).trans h.c1, (hb.frozen (p := ⟨b, 0, none⟩) hl).trans h.f0, (hb.frozen (p := ⟨b, 1, none⟩) hl).trans h.f1⟩
theorem Box.lt {w : World} {b : Nat} {p : Pr} (h : Box w b p) : b < w.heap.size := World.block_lt_of_cell? _ _ h.c0

/-! ### Get -/
theorem getD_at {l : List Pr} {k : Nat} (hk : k < l.length) : l.getD k ([], []) = l[k] := by simp [List.getD, List.getElem?_eq_getElem hk]
theorem get_take_skip {l : List Pr} {n : Str} {k : Nat} (hk : k < l.length) (h : (l.getD k ([], [])).1 ≠ n) : fGet (l.drop k) n = fGet (l.drop (k + 1)) n := by
  rw [List.drop_eq_getElem_cons hk, get_cons]
  rw [getD_at hk] at h
  rw [if_neg h]
theorem get_take_hit {l : List Pr} {n : Str} {k : Nat} (hk : k < l.length) (h : (l.getD k ([], [])).1 = n) : fGet (l.drop k) n = (l.getD k ([], [])).2 := by
  rw [List.drop_eq_getElem_cons hk, get_cons]
  rw [getD_at hk] at *
  rw [if_pos h]

set_option maxHeartbeats 1000000 in
theorem get_any (ao : Option Addr) (n cap : Nat) (l : List Pr) (s : Str) (w : World) (hn : n ≤ 9223372036854775807) (hs : Ps w ao n l) :
    Calls Tryz.prog 18 #[.slice ao n cap, tx s] w fun e w' => e = .returned (tx (fGet l s)) ∧ Below w.heap.size w w' := by
  obtain ⟨hlen, hcell⟩ := hs
  have HL : Hid (l.length = n) := hlen
  clear hlen
  go_enter Tryz.func18, Tryz.ntmps18
  go_wp2
  go_loopw [9] (fun i wr => ∃ j : Nat, j ≤ n ∧ i = .int .i64 j ∧ Hid (fGet l s = fGet (l.drop j) s) ∧ Below w.heap.size w wr) (fun i _ => n - (intOf i).toNat)
  case atStart => exact ⟨0, by omega, rfl, rfl, Below.refl _ _⟩
  case round =>
    obtain ⟨j, hj, rfl, hg, hb⟩ := hrel
    by_cases hlt : j < n
    · obtain ⟨b, off, rfl, hc⟩ := hcell (by omega)
      have hc0 := (hc j hlt).1
      have hc1 := (hc j hlt).2
      have k0 := (hb.cell (p := ⟨b, off + j * 2, none⟩) (World.block_lt_of_cell? _ _ hc0)).trans hc0
      have k1 := (hb.cell (p := ⟨b, off + j * 2 + 1, none⟩) (World.block_lt_of_cell? _ _ hc1)).trans hc1
      have hlt' : j < l.length := by rw [HL.out]; exact hlt
      have HSk : Hid _ := get_take_skip (n := s) hlt'
      have HHi : Hid _ := get_take_hit (n := s) hlt'
      clear hc hcell hc0 hc1 hlt'
      have hb1 : ∀ o, Below w.heap.size w (wr.alloc o) := bal hb
      generalize l.getD j ([], []) = p at *
      obtain ⟨p1, p2⟩ := p
      dsimp only at *
      by_cases he : p1 = s
      · have he' : (p1 == s) = true := by simpa using he
        have HR : Hid (fGet l s = p2) := by show _ = _; rw [hg.out, HHi.out he]
        clear he HSk HHi hg
        go_wp2
        go_ret
        exact ⟨by rw [HR.out]; rfl, hb1 _⟩
      · have he' : (p1 == s) = false := by simpa using he
        have HR : Hid (fGet l s = fGet (l.drop (j + 1)) s) := by show _ = _; rw [hg.out, HSk.out he]
        clear he HSk HHi hg
        go_wp2
        go_roundw
        case rel => exact ⟨j + 1, by omega, by go_num, HR, hb1 _⟩
        case measure => simp [intOf]; omega
    · have HR : Hid (fGet l s = []) := by
        show _ = _
        rw [hg.out, List.drop_eq_nil_of_le (by rw [HL.out]; omega)]
        rfl
      go_wp2
      go_ret
      exact ⟨by rw [HR.out]; rfl, hb⟩
end Go.Proofs.YtideieolgjhbiaaGreatDoor
