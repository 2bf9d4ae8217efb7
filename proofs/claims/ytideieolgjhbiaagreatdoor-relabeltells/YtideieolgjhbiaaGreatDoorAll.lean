/- All: for every set and matchers. -/
import Derived.Test.YtideieolgjhbiaaGreatDoorOne
import Derived.Test.YtideieolgjhbiaaGreatDoorTake
namespace Go.Proofs.YtideieolgjhbiaaGreatDoor
open Go.RowKit

def mat0 : Mat := ⟨[], 0, []⟩
/-- A slice of matchers. -/
def Ms (w : World) (ao : Option Addr) (n : Nat) (l : List Mat) : Prop :=
  l.length = n ∧ (0 < n → ∃ b off, ao = some ⟨b, off, none⟩ ∧ ∀ j, j < n → w.cell? ⟨b, off + j * 3, none⟩ = some (tx (l.getD j mat0).name) ∧ w.cell? ⟨b, off + j * 3 + 1, none⟩ = some (.int .i64 (l.getD j mat0).kind) ∧ w.cell? ⟨b, off + j * 3 + 2, none⟩ = some (tx (l.getD j mat0).text))
theorem Ms.later {w w' : World} {ao : Option Addr} {n : Nat} {l : List Mat} (h : Ms w ao n l) (hb : Below w.heap.size w w') : Ms w' ao n l := by
  obtain ⟨h1, h4⟩ := h
  refine ⟨h1, fun hp => ?_⟩
  obtain ⟨b, off, e, hc⟩ := h4 hp
  exact ⟨b, off, e, fun j hj => ⟨(hb.cell (p := ⟨b, off + j * 3, none⟩) (World.block_lt_of_cell? _ _ (hc j hj).1)).trans (hc j hj).1, (hb.cell (p := ⟨b, off + j * 3 + 1, none⟩) (World.block_lt_of_cell? _ _ (hc j hj).2.1)).trans (hc j hj).2.1, (hb.cell (p := ⟨b, off + j * 3 + 2, none⟩) (World.block_lt_of_cell? _ _ (hc j hj).2.2)).trans (hc j hj).2.2⟩⟩
def FitM (l : List Mat) : Prop := ∀ m ∈ l, Big m.name ∧ Big m.text
theorem FitM.at {l : List Mat} (h : FitM l) (j : Nat) : Big (l.getD j mat0).name ∧ Big (l.getD j mat0).text := by
  by_cases hj : j < l.length
  · rw [List.getD, List.getElem?_eq_getElem hj]
    exact h _ (List.getElem_mem hj)
  · rw [List.getD, List.getElem?_eq_none (by omega)]
    simp [mat0, Big]
/-- A matcher that lies in a block of its own. -/
structure BoxM (w : World) (b : Nat) (m : Mat) : Prop where
  c0 : w.cell? ⟨b, 0, none⟩ = some (tx m.name)
  c1 : w.cell? ⟨b, 1, none⟩ = some (.int .i64 m.kind)
  c2 : w.cell? ⟨b, 2, none⟩ = some (tx m.text)
theorem BoxM.new (w : World) (m : Mat) : BoxM (w.alloc (.cells #[tx m.name, .int .i64 m.kind, tx m.text] 33)) w.heap.size m := by
  constructor <;> simp [go_sem]
theorem BoxM.later {w w' : World} {b : Nat} {m : Mat} (h : BoxM w b m) (hb : Below w.heap.size w w') : BoxM w' b m := by
  have hl : b < w.heap.size := World.block_lt_of_cell? _ _ h.c0
  exact ⟨(hb.cell (p := ⟨b, 0, none⟩) hl).trans h.c0, (hb.cell (p := ⟨b, 1, none⟩) hl).trans h.c1, (hb.cell (p := ⟨b, 2, none⟩) hl).trans h.c2⟩
def fAll (l : List Pr) (m : List Mat) : Bool := m.all fun x => fOne x (fGet l x.name)
theorem mat_at {l : List Mat} {k : Nat} (hk : k < l.length) : l.getD k mat0 = l[k] := by simp [List.getD, List.getElem?_eq_getElem hk]
theorem all_take {l : List Pr} {m : List Mat} {k : Nat} (hk : k < m.length) : fAll l (m.take (k + 1)) = (fAll l (m.take k) && fOne (m.getD k mat0) (fGet l (m.getD k mat0).name)) := by
  unfold fAll
  rw [List.take_succ_eq_append_getElem hk, List.all_append, mat_at hk]
  simp
theorem all_no {l : List Pr} {m : List Mat} {k : Nat} (hk : k < m.length) (h : fOne (m.getD k mat0) (fGet l (m.getD k mat0).name) = false) : fAll l m = false := by
  cases hd : fAll l m with
  | false => rfl
  | true =>
    unfold fAll at hd
    rw [mat_at hk] at h
    rw [List.all_eq_true.1 hd _ (List.getElem_mem hk)] at h; cases h
theorem get_big {l : List Pr} (h : Fit l) (n : Str) : (fGet l n).length ≤ 9223372036854775807 := by
  induction l with
  | nil => simp [get_nil]
  | cons p l ih =>
    rw [get_cons]
    split
    · exact (h p (by simp)).2
    · exact ih fun q hq => h q (by simp [hq])
/-- Texts that can be told. -/
def FitP (l : List Pr) : Prop := ∀ p ∈ l, Big p.1 ∧ Big p.2
theorem get_bigP {l : List Pr} (h : FitP l) (n : Str) : Big (fGet l n) := by
  induction l with
  | nil => simp [get_nil, Big]
  | cons p l ih =>
    rw [get_cons]
    split
    · exact (h p (by simp)).2
    · exact ih fun q hq => h q (by simp [hq])

set_option maxHeartbeats 1000000 in
theorem all_any (ao : Option Addr) (n cap : Nat) (l : List Pr) (xo : Option Addr) (k c : Nat) (m : List Mat) (w : World) (hn : n ≤ 9223372036854775807) (hk : k ≤ 9223372036854775807) (hl : Ps w ao n l) (hm : Ms w xo k m) (hf : FitP l) (hg : FitM m) :
    Calls Tryz.prog 58 #[.slice ao n cap, .slice xo k c] w fun e w' => e = .returned (.bool (fAll l m)) ∧ Below w.heap.size w w' := by
  obtain ⟨hlen, hcell⟩ := hm
  have HL : Hid (m.length = k) := hlen
  clear hlen
  go_enter Tryz.func58, Tryz.ntmps58
  go_wp2
  go_loopw [9] (fun i wr => ∃ j : Nat, j ≤ k ∧ i = .int .i64 j ∧ Hid (fAll l (m.take j) = true) ∧ Below w.heap.size w wr) (fun i _ => k - (intOf i).toNat)
  case atStart => exact ⟨0, by omega, rfl, rfl, Below.refl _ _⟩
  case round =>
    obtain ⟨j, hj, rfl, ha, hb⟩ := hrel
    by_cases hlt : j < k
    · obtain ⟨b, off, rfl, hc⟩ := hcell (by omega)
      obtain ⟨hc0, hc1, hc2⟩ := hc j hlt
      have k0 := (hb.cell (p := ⟨b, off + j * 3, none⟩) (World.block_lt_of_cell? _ _ hc0)).trans hc0
      have k1 := (hb.cell (p := ⟨b, off + j * 3 + 1, none⟩) (World.block_lt_of_cell? _ _ hc1)).trans hc1
      have k2 := (hb.cell (p := ⟨b, off + j * 3 + 2, none⟩) (World.block_lt_of_cell? _ _ hc2)).trans hc2
      have hlt' : j < m.length := by rw [HL.out]; exact hlt
      have HT : Hid _ := all_take (l := l) hlt'
      have HN : Hid _ := all_no (l := l) hlt'
      have hbig := hg.at j
      clear hc hcell hc0 hc1 hc2 hlt'
      have hb1 : ∀ o, Below w.heap.size w (wr.alloc o) := bal hb
      generalize m.getD j mat0 = x at *
      have hbx := BoxM.new wr x
      have hget : ∀ W, Below w.heap.size w W → Calls Tryz.prog 18 #[.slice ao n cap, tx x.name] W fun e w' => e = .returned (tx (fGet l x.name)) ∧ Below W.heap.size W w' := fun W hW => get_any ao n cap l x.name W hn (hl.later hW)
      have hone := fun W => one_any x (fGet l x.name) W (get_bigP hf _) hbig.2
      go_wp2_with fail
      have hb2 := hb1 (.cells #[.string ⟨x.name.toArray⟩, .int .i64 x.kind, .string ⟨x.text.toArray⟩] 33)
      generalize wr.alloc (.cells #[.string ⟨x.name.toArray⟩, .int .i64 x.kind, .string ⟨x.text.toArray⟩] 33) = w1 at *
      cases hv : fOne x (fGet l x.name) with
      | true =>
        rw [hv] at hone
        have HR : Hid (fAll l (m.take (j + 1)) = true) := by show _ = _; rw [HT.out, hv, ha.out]; rfl
        clear HT HN ha hv k0 k1 k2
        have C0 : Below w1.heap.size w1 w1.drew := (Below.refl _ _).drew
        refine wp_region_noPanic ?_
        refine wp_region_held_drew (S := fun W => Below w1.heap.size w1 W) (by kernel_rfl) ?_ (fun _ => ?_)
        · exact C0
        generalize w1.drew = wd at *
        refine take_at 0 (some 13) (.agg #[tx x.name, .int .i64 x.kind, tx x.text]) rfl rfl (by kernel_rfl) (by kernel_rfl) (by kernel_rfl) (fun _ _ _ h => h) (by rfl) (fun W hSw => by have c0 := (hbx.later hSw).c0; have c1 := (hbx.later hSw).c1; have c2 := (hbx.later hSw).c2; go_simp) C0 ?_
        simp only [Act.put, List.setIfInBounds_toArray, List.set_cons_zero, List.set_cons_succ]
        refine take_at 1 (some 14) (.slice ao n cap) rfl rfl (by kernel_rfl) (by kernel_rfl) (by kernel_rfl) (fun _ _ _ h => h) (by rfl) (fun W hSw => by go_simp) C0 ?_
        simp only [Act.put, List.setIfInBounds_toArray, List.set_cons_zero, List.set_cons_succ]
        refine take_at 2 (some 15) (.pointer (some ⟨wr.heap.size, 0, none⟩)) rfl rfl (by kernel_rfl) (by kernel_rfl) (by kernel_rfl) (fun _ _ _ h => h) (by rfl) (fun W hSw => by go_simp) C0 ?_
        simp only [Act.put, List.setIfInBounds_toArray, List.set_cons_zero, List.set_cons_succ]
        refine take_at 3 (some 16) (tx x.name) rfl rfl (by kernel_rfl) (by kernel_rfl) (by kernel_rfl) (fun _ _ _ h => h) (by rfl) (fun W hSw => by have c0 := (hbx.later hSw).c0; have c1 := (hbx.later hSw).c1; have c2 := (hbx.later hSw).c2; go_simp) C0 ?_
        simp only [Act.put, List.setIfInBounds_toArray, List.set_cons_zero, List.set_cons_succ]
        refine wpAnyH_ready (rs := [4]) (by kernel_rfl) (by simp) ?_
        refine AllReadyH.cons rfl (fun K hK => ?_) AllReadyH.nil
        go_simp
        refine (hget _ (Below.chain hb2 C0)).mono ?_
        rintro e w5 ⟨rfl, hb5⟩
        have C5 := Below.chain C0 hb5
        refine hK.out _ _ ?_ (fun _ => ?_)
        · exact C5
        clear hK K
        refine wpAnyH_ready (rs := [5]) (by kernel_rfl) (by simp) ?_
        refine AllReadyH.cons rfl (fun K hK => ?_) AllReadyH.nil
        go_simp
        refine (hone _).mono ?_
        rintro e w6 ⟨rfl, hb6⟩
        have C6 := Below.chain C5 hb6
        refine hK.out _ _ ?_ (fun _ => ?_)
        · exact C6
        clear hK K
        refine take_at 6 (some 19) (.bool false) rfl rfl (by kernel_rfl) (by kernel_rfl) (by kernel_rfl) (fun _ _ _ h => h) (by rfl) (fun W hSw => by go_simp) C6 ?_
        simp only [Act.put, List.setIfInBounds_toArray, List.set_cons_zero, List.set_cons_succ]
        refine wpAnyH_done (by kernel_rfl) ?_ _
        refine NoPanic.normal ?_
        have C9 := Below.chain hb2 C6
        go_wp2_with fail
        go_roundw
        case rel => exact ⟨j + 1, by omega, by go_num, HR, C9⟩
        case measure => simp [intOf]; omega
      | false =>
        rw [hv] at hone
        have HR : Hid (fAll l m = false) := HN.out hv
        clear HT HN ha hv k0 k1 k2
        have C0 : Below w1.heap.size w1 w1.drew := (Below.refl _ _).drew
        refine wp_region_noPanic ?_
        refine wp_region_held_drew (S := fun W => Below w1.heap.size w1 W) (by kernel_rfl) ?_ (fun _ => ?_)
        · exact C0
        generalize w1.drew = wd at *
        refine take_at 0 (some 13) (.agg #[tx x.name, .int .i64 x.kind, tx x.text]) rfl rfl (by kernel_rfl) (by kernel_rfl) (by kernel_rfl) (fun _ _ _ h => h) (by rfl) (fun W hSw => by have c0 := (hbx.later hSw).c0; have c1 := (hbx.later hSw).c1; have c2 := (hbx.later hSw).c2; go_simp) C0 ?_
        simp only [Act.put, List.setIfInBounds_toArray, List.set_cons_zero, List.set_cons_succ]
        refine take_at 1 (some 14) (.slice ao n cap) rfl rfl (by kernel_rfl) (by kernel_rfl) (by kernel_rfl) (fun _ _ _ h => h) (by rfl) (fun W hSw => by go_simp) C0 ?_
        simp only [Act.put, List.setIfInBounds_toArray, List.set_cons_zero, List.set_cons_succ]
        refine take_at 2 (some 15) (.pointer (some ⟨wr.heap.size, 0, none⟩)) rfl rfl (by kernel_rfl) (by kernel_rfl) (by kernel_rfl) (fun _ _ _ h => h) (by rfl) (fun W hSw => by go_simp) C0 ?_
        simp only [Act.put, List.setIfInBounds_toArray, List.set_cons_zero, List.set_cons_succ]
        refine take_at 3 (some 16) (tx x.name) rfl rfl (by kernel_rfl) (by kernel_rfl) (by kernel_rfl) (fun _ _ _ h => h) (by rfl) (fun W hSw => by have c0 := (hbx.later hSw).c0; have c1 := (hbx.later hSw).c1; have c2 := (hbx.later hSw).c2; go_simp) C0 ?_
        simp only [Act.put, List.setIfInBounds_toArray, List.set_cons_zero, List.set_cons_succ]
        refine wpAnyH_ready (rs := [4]) (by kernel_rfl) (by simp) ?_
        refine AllReadyH.cons rfl (fun K hK => ?_) AllReadyH.nil
        go_simp
        refine (hget _ (Below.chain hb2 C0)).mono ?_
        rintro e w5 ⟨rfl, hb5⟩
        have C5 := Below.chain C0 hb5
        refine hK.out _ _ ?_ (fun _ => ?_)
        · exact C5
        clear hK K
        refine wpAnyH_ready (rs := [5]) (by kernel_rfl) (by simp) ?_
        refine AllReadyH.cons rfl (fun K hK => ?_) AllReadyH.nil
        go_simp
        refine (hone _).mono ?_
        rintro e w6 ⟨rfl, hb6⟩
        have C6 := Below.chain C5 hb6
        refine hK.out _ _ ?_ (fun _ => ?_)
        · exact C6
        clear hK K
        refine take_at 6 (some 19) (.bool true) rfl rfl (by kernel_rfl) (by kernel_rfl) (by kernel_rfl) (fun _ _ _ h => h) (by rfl) (fun W hSw => by go_simp) C6 ?_
        simp only [Act.put, List.setIfInBounds_toArray, List.set_cons_zero, List.set_cons_succ]
        refine wpAnyH_done (by kernel_rfl) ?_ _
        refine NoPanic.normal ?_
        have C9 := Below.chain hb2 C6
        go_wp2_with fail
        go_ret
        exact ⟨by rw [HR.out]; rfl, C9⟩
    · have HR : Hid (fAll l m = true) := by
        have := ha.out
        rw [List.take_of_length_le (by rw [HL.out]; omega)] at this
        exact this
      go_wp2_with fail
      go_ret
      exact ⟨by rw [HR.out]; rfl, hb⟩
end Go.Proofs.YtideieolgjhbiaaGreatDoor
