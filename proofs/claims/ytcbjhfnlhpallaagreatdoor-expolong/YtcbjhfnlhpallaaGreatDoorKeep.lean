
/- Keep, Without: for every slice of pairs, of names. -/
import Derived.Test.YtcbjhfnlhpallaaGreatDoorMake
namespace Go.Proofs.YtcbjhfnlhpallaaGreatDoor
open Go.RowKit

/-- A slice of texts. -/
def Ss (w : World) (ao : Option Addr) (n : Nat) (l : List Str) : Prop :=
  l.length = n ∧ (0 < n → ∃ b off, ao = some ⟨b, off, none⟩ ∧ ∀ j, j < n → w.cell? ⟨b, off + j, none⟩ = some (tx (l.getD j [])))
theorem Ss.later {w w' : World} {ao : Option Addr} {n : Nat} {l : List Str} (h : Ss w ao n l) (hb : Below w.heap.size w w') : Ss w' ao n l := by
  obtain ⟨h1, h4⟩ := h
  refine ⟨h1, fun hp => ?_⟩
  obtain ⟨b, off, e, hc⟩ := h4 hp
  exact ⟨b, off, e, fun j hj => (hb.cell (p := ⟨b, off + j, none⟩) (World.block_lt_of_cell? _ _ (hc j hj))).trans (hc j hj)⟩
theorem Ss.nil (w : World) (ao : Option Addr) : Ss w ao 0 [] := ⟨rfl, fun h => by omega⟩
theorem mk_inj {a b : Str} (h : (⟨a.toArray⟩ : ByteArray) = ⟨b.toArray⟩) : a = b := by
  have := congrArg (fun x : ByteArray => x.data.toList) h
  simpa using this
theorem contains_map (l : List Str) (x : Str) : Lib.containsS (l.map fun s => (⟨s.toArray⟩ : ByteArray)) ⟨x.toArray⟩ = l.contains x := by
  rw [Bool.eq_iff_iff, Lib.containsS_iff, List.contains_iff_mem]
  constructor
  · intro h
    obtain ⟨a, ha, e⟩ := List.mem_map.1 h
    rw [← mk_inj e]
    exact ha
  · intro h
    exact List.mem_map.2 ⟨x, h, rfl⟩
theorem in_any (ao : Option Addr) (n c : Nat) (l : List Str) (x : Str) (w : World) (hn : n ≤ 9223372036854775807) (h : Ss w ao n l) :
    Calls Tryz.prog 166 #[.slice ao n c, tx x] w fun e w' => e = .returned (.bool (l.contains x)) ∧ w = w' := by
  by_cases h0 : n = 0
  · subst h0
    obtain rfl : l = [] := List.length_eq_zero_iff.1 h.1
    refine (Tryz.slices_Contains_string_empty ao c ⟨x.toArray⟩ w).mono ?_
    rintro e w' ⟨rfl, rfl⟩
    exact ⟨rfl, rfl⟩
  · obtain ⟨hl, h4⟩ := h
    obtain ⟨b, off, rfl, hc⟩ := h4 (by omega)
    refine (Tryz.slices_Contains_string b off n c (l.map fun s => (⟨s.toArray⟩ : ByteArray)) ⟨x.toArray⟩ w (by simp [hl]) hn (fun j hj => ?_)).mono ?_
    · have hj' : j < l.length := by simpa using hj
      rw [hc j (by omega)]
      simp [List.getD, List.getElem?_eq_getElem hj']
    · rintro e w' ⟨rfl, rfl⟩
      refine ⟨?_, rfl⟩
      rw [List.take_of_length_le (by simp [hl]), contains_map]
theorem without1_any (p : Pr) (bx : Nat) (ao : Option Addr) (n c : Nat) (l : List Str) (w : World) (hn : n ≤ 9223372036854775807) (h : Ss w ao n l) (hb : w.cell? ⟨bx, 0, none⟩ = some (.slice ao n c)) :
    Calls Tryz.prog 165 #[.agg #[tx p.1, tx p.2], .pointer (some ⟨bx, 0, none⟩)] w fun e w' => e = .returned (.bool (!decide (p.1 = nm) && !l.contains p.1)) ∧ Below w.heap.size w w' := by
  have hi := in_any ao n c l p.1
  have hlt := World.block_lt_of_cell? _ _ hb
  have hk : ∀ o, (w.alloc o).cell? ⟨bx, 0, none⟩ = some (.slice ao n c) := fun o => ((bal (Below.refl _ w) o).cell (p := ⟨bx, 0, none⟩) hlt).trans hb
  have hb1 : ∀ o, Below w.heap.size w (w.alloc o) := bal (Below.refl _ _)
  generalize l.contains p.1 = r at *
  obtain ⟨p1, p2⟩ := p
  dsimp only at *
  by_cases hp : p1 = nm
  · have hp' : (p1 == [95, 95, 110, 97, 109, 101, 95, 95]) = true := by simpa [nm] using hp
    have HP : Hid (decide (p1 = nm) = true) := decide_eq_true hp
    rw [HP.out]
    clear hp
    go_enter Tryz.func165, Tryz.ntmps165
    go_wp2
    go_ret
    exact ⟨rfl, hb1 _⟩
  · have hp' : (p1 == [95, 95, 110, 97, 109, 101, 95, 95]) = false := by simpa [nm] using hp
    have HP : Hid (decide (p1 = nm) = false) := decide_eq_false hp
    rw [HP.out]
    clear hp
    go_enter Tryz.func165, Tryz.ntmps165
    go_wp2_with (go_at_call 166; refine (hi _ hn (h.later (hb1 _))).mono ?_; rintro e w' ⟨rfl, rfl⟩)
    go_ret
    exact ⟨by simp, hb1 _⟩
theorem enters38 : ∀ args w, (callFunc 165 args).run Tryz.prog w = .ok (.enter 165 args) w := enters_of Tryz.func165 (by kernel_rfl) rfl
theorem without_any (xa : Option Addr) (n c : Nat) (l : List Pr) (ya : Option Addr) (m d : Nat) (ns : List Str) (w : World) (hn : n ≤ 1000000) (hm : m ≤ 9223372036854775807) (hx : Ps w xa n l) (hy : Ss w ya m ns) :
    Calls Tryz.prog 132 #[.slice xa n c, .slice ya m d] w fun e w' => ∃ v, e = .returned v ∧ Own w' w.heap.size v (fWithout l ns) ∧ Below w.heap.size w w' := by
  have hb0 := bal (Below.refl _ w) (.cells #[.slice ya m d] 48)
  have hbx : (w.alloc (.cells #[.slice ya m d] 48)).cell? ⟨w.heap.size, 0, none⟩ = some (.slice ya m d) := World.cell?_alloc_new w _ _ 0
  have hon := only_any xa n c l 165 #[.pointer (some ⟨w.heap.size, 0, none⟩)] (fun p => !decide (p.1 = nm) && !ns.contains p.1) (w.alloc (.cells #[.slice ya m d] 48)) hn (hx.later hb0) enters38
    (fun p W hW => without1_any p w.heap.size ya m d ns W hm ((hy.later hb0).later hW) ((hW.cell (p := ⟨w.heap.size, 0, none⟩) (World.block_lt_of_cell? _ _ hbx)).trans hbx))
  have HF : Hid (l.filter (fun p => !decide (p.1 = nm) && !ns.contains p.1) = fWithout l ns) := rfl
  go_enter Tryz.func132, Tryz.ntmps132
  go_wp2_with fail
  refine hon.mono ?_
  rintro e w1 ⟨v, rfl, ho, hb⟩
  rw [HF.out] at ho
  go_wp2
  go_ret
  exact ⟨_, rfl, ho.base hb0.size, Below.chain hb0 hb⟩
end Go.Proofs.YtcbjhfnlhpallaaGreatDoor
