/- byName, byNameThenValue, slices.CompareFunc at these, Cmp: each for every argument. -/
import Derived.Test.YtldlhpokkidmlaaGreatDoorIs
namespace Go.Proofs.YtldlhpokkidmlaaGreatDoor
open Go.RowKit Go.Shelf Go.Lib Go.Sort

theorem compare_any (a b : Str) (w : World) : Calls Tryz.prog 51 #[tx a, tx b] w fun e w' => e = .returned (.int .i64 (Lib.compareBytes a b)) ∧ w = w' := by
  refine (Tryz.strings_Compare ⟨a.toArray⟩ ⟨b.toArray⟩ w).mono ?_
  rintro e w' ⟨rfl, rfl⟩
  exact ⟨rfl, rfl⟩
theorem byName_grow (p q : Pr) (w : World) : Calls Tryz.prog 28 #[.agg #[tx p.1, tx p.2], .agg #[tx q.1, tx q.2]] w fun e w' => e = .returned (.int .i64 (Lib.compareBytes p.1 q.1)) ∧ ∃ k os', w' = grow (w.drewN k) os' := by
  have hc := compare_any p.1 q.1
  generalize Lib.compareBytes p.1 q.1 = r at hc ⊢
  go_enter Tryz.func28, Tryz.ntmps28
  go_wp2_with (go_at_call 51; refine (hc _).mono ?_; rintro e w' ⟨rfl, rfl⟩)
  go_ret
  exact ⟨rfl, 0, _, by rw [alloc_eq_grow, alloc_eq_grow, grow_grow]; rfl⟩
theorem byName_any (p q : Pr) (w : World) : Calls Tryz.prog 28 #[.agg #[tx p.1, tx p.2], .agg #[tx q.1, tx q.2]] w fun e w' => e = .returned (.int .i64 (Lib.compareBytes p.1 q.1)) ∧ Below w.heap.size w w' := by
  have hc := compare_any p.1 q.1
  generalize Lib.compareBytes p.1 q.1 = r at hc ⊢
  go_enter Tryz.func28, Tryz.ntmps28
  go_wp2_with (go_at_call 51; refine (hc _).mono ?_; rintro e w' ⟨rfl, rfl⟩)
  go_ret
  exact ⟨rfl, bal (bal (Below.refl _ _) _) _⟩
set_option maxHeartbeats 1000000 in
theorem byPair_any (p q : Pr) (w : World) : Calls Tryz.prog 42 #[.agg #[tx p.1, tx p.2], .agg #[tx q.1, tx q.2]] w fun e w' => e = .returned (.int .i64 (pCmp p q)) ∧ Below w.heap.size w w' := by
  have hn := byName_any p q
  have hc := compare_any p.2 q.2
  unfold pCmp
  generalize Lib.compareBytes p.2 q.2 = r at hc ⊢
  generalize Lib.compareBytes p.1 q.1 = r1 at hn ⊢
  have hx := (Box.new w p).later (bal (Below.refl _ _) (.cells #[tx q.1, tx q.2] 43))
  have hy := Box.new (w.alloc (.cells #[tx p.1, tx p.2] 43)) q
  have hsz : (w.alloc (.cells #[tx p.1, tx p.2] 43)).heap.size = w.heap.size + 1 := by simp
  rw [hsz] at hy
  have HS : Hid _ := hsz
  clear hsz
  by_cases h : r1 = 0
  · subst h
    rw [if_pos rfl]
    go_enter Tryz.func42, Tryz.ntmps42
    go_wp2_with fail
    refine (hn _).mono ?_
    rintro e w1 ⟨rfl, hb1⟩
    obtain ⟨c0, c1, _, _⟩ := hx.later hb1
    obtain ⟨d0, d1, _, _⟩ := hy.later hb1
    go_wp2_with (go_at_call 51; refine (hc _).mono ?_; rintro e w' ⟨rfl, rfl⟩)
    go_ret
    exact ⟨rfl, Below.chain (bal (bal (Below.refl _ _) _) _) hb1⟩
  · rw [if_neg h]
    have h' : (r1 != 0) = true := by rw [bne_iff_ne]; exact h
    clear h
    go_enter Tryz.func42, Tryz.ntmps42
    go_wp2_with fail
    refine (hn _).mono ?_
    rintro e w1 ⟨rfl, hb1⟩
    go_wp2
    go_ret
    exact ⟨rfl, Below.chain (bal (bal (Below.refl _ _) _) _) hb1⟩

/-- What is left to compare behind j pairs. -/
theorem cmp_drop_eq {a b : List Pr} {j : Nat} (ha : j < a.length) (hb : j < b.length) (h : pCmp (a.getD j ([], [])) (b.getD j ([], [])) = 0) : fCmp (a.drop j) (b.drop j) = fCmp (a.drop (j + 1)) (b.drop (j + 1)) := by
  rw [List.drop_eq_getElem_cons ha, List.drop_eq_getElem_cons hb, fCmp]
  rw [getD_at ha, getD_at hb] at h
  rw [if_pos h]
theorem cmp_drop_ne {a b : List Pr} {j : Nat} (ha : j < a.length) (hb : j < b.length) (h : pCmp (a.getD j ([], [])) (b.getD j ([], [])) ≠ 0) : fCmp (a.drop j) (b.drop j) = pCmp (a.getD j ([], [])) (b.getD j ([], [])) := by
  rw [List.drop_eq_getElem_cons ha, List.drop_eq_getElem_cons hb, fCmp]
  rw [getD_at ha, getD_at hb] at *
  rw [if_neg h]
theorem cmp_long {a b : List Pr} {j : Nat} (ha : j < a.length) (hb : b.length ≤ j) : fCmp (a.drop j) (b.drop j) = 1 := by
  rw [List.drop_eq_getElem_cons ha, List.drop_eq_nil_of_le hb, fCmp]
theorem cmp_end {a b : List Pr} {j : Nat} (ha : a.length ≤ j) : fCmp (a.drop j) (b.drop j) = if j < b.length then -1 else 0 := by
  rw [List.drop_eq_nil_of_le ha]
  by_cases h : j < b.length
  · rw [if_pos h, List.drop_eq_getElem_cons h, fCmp]
  · rw [if_neg h, List.drop_eq_nil_of_le (by omega), fCmp]

set_option maxHeartbeats 2000000 in
theorem cmpFunc_any (xa : Option Addr) (n c : Nat) (a : List Pr) (ya : Option Addr) (m d : Nat) (b : List Pr) (w : World) (hn : n ≤ 9223372036854775807) (hm : m ≤ 9223372036854775807) (hx : Ps w xa n a) (hy : Ps w ya m b) :
    Calls Tryz.prog 41 #[.slice xa n c, .slice ya m d, .func (.func 42) #[] #[]] w fun e w' => e = .returned (.int .i64 (fCmp a b)) ∧ Below w.heap.size w w' := by
  obtain ⟨hla, hca⟩ := hx
  obtain ⟨hlb, hcb⟩ := hy
  have HA : Hid (a.length = n) := hla
  have HB : Hid (b.length = m) := hlb
  clear hla hlb
  go_enter Tryz.func41, Tryz.ntmps41
  go_wp2
  go_loopw [13] (fun i wr => ∃ j : Nat, j ≤ n ∧ j ≤ m ∧ i = .int .i64 j ∧ Hid (fCmp a b = fCmp (a.drop j) (b.drop j)) ∧ Below w.heap.size w wr) (fun i _ => n - (intOf i).toNat)
  case atStart => exact ⟨0, by omega, by omega, rfl, rfl, Below.refl _ _⟩
  case round =>
    obtain ⟨j, hj, hj2, rfl, ht, hb⟩ := hrel
    by_cases hlt : j < n
    · obtain ⟨b1, o1, rfl, h1⟩ := hca (by omega)
      obtain ⟨c10, c11⟩ := h1 j hlt
      have k0 := (hb.cell (p := ⟨b1, o1 + j * 2, none⟩) (World.block_lt_of_cell? _ _ c10)).trans c10
      have k1 := (hb.cell (p := ⟨b1, o1 + j * 2 + 1, none⟩) (World.block_lt_of_cell? _ _ c11)).trans c11
      by_cases hlm : j < m
      · obtain ⟨b2, o2, rfl, h2⟩ := hcb (by omega)
        obtain ⟨c20, c21⟩ := h2 j hlm
        have k2 := (hb.cell (p := ⟨b2, o2 + j * 2, none⟩) (World.block_lt_of_cell? _ _ c20)).trans c20
        have k3 := (hb.cell (p := ⟨b2, o2 + j * 2 + 1, none⟩) (World.block_lt_of_cell? _ _ c21)).trans c21
        have HE : Hid _ := cmp_drop_eq (a := a) (b := b) (j := j) (by rw [HA.out]; exact hlt) (by rw [HB.out]; exact hlm)
        have HN : Hid _ := cmp_drop_ne (a := a) (b := b) (j := j) (by rw [HA.out]; exact hlt) (by rw [HB.out]; exact hlm)
        clear h1 h2 hca hcb c10 c11 c20 c21
        generalize a.getD j ([], []) = p at *
        generalize b.getD j ([], []) = q at *
        have hc := byPair_any p q
        have hl0 : ∀ o, (wr.alloc o).cell? ⟨b2, o2 + j * 2, none⟩ = some (tx q.1) := fun o => ((bal (Below.refl _ wr) o).cell (p := ⟨b2, o2 + j * 2, none⟩) (World.block_lt_of_cell? _ _ k2)).trans k2
        have hl1 : ∀ o, (wr.alloc o).cell? ⟨b2, o2 + j * 2 + 1, none⟩ = some (tx q.2) := fun o => ((bal (Below.refl _ wr) o).cell (p := ⟨b2, o2 + j * 2 + 1, none⟩) (World.block_lt_of_cell? _ _ k3)).trans k3
        have hb1 : ∀ o o', Below w.heap.size w ((wr.alloc o).alloc o') := fun o o' => bal (bal hb o) o'
        have hlt2 : ¬ (m : Int) ≤ j := by omega
        generalize pCmp p q = r at *
        by_cases hr : r = 0
        · have HR : Hid (fCmp a b = fCmp (a.drop (j + 1)) (b.drop (j + 1))) := by show _ = _; rw [ht.out, HE.out hr]
          have hr' : (r != 0) = false := by rw [bne_eq_false_iff_eq]; exact hr
          clear hr HE HN ht
          go_wp2_with fail
          refine (hc _).mono ?_
          rintro e w1 ⟨rfl, hb2⟩
          go_wp2
          go_roundw
          case rel => exact ⟨j + 1, by omega, by omega, by go_num, HR, Below.chain (hb1 _ _) hb2⟩
          case measure => simp [intOf]; omega
        · have HR : Hid (fCmp a b = r) := by show _ = _; rw [ht.out, HN.out hr]
          have hr' : (r != 0) = true := by rw [bne_iff_ne]; exact hr
          clear hr HE HN ht
          go_wp2_with fail
          refine (hc _).mono ?_
          rintro e w1 ⟨rfl, hb2⟩
          go_wp2
          go_ret
          exact ⟨by rw [HR.out]; rfl, Below.chain (hb1 _ _) hb2⟩
      · have HR : Hid (fCmp a b = 1) := by show _ = _; rw [ht.out, cmp_long (by rw [HA.out]; exact hlt) (by rw [HB.out]; omega)]
        have hlt2 : (m : Int) ≤ j := by omega
        clear hca hcb c10 c11
        generalize a.getD j ([], []) = p at *
        have hb1 : ∀ o, Below w.heap.size w (wr.alloc o) := bal hb
        go_wp2
        go_ret
        exact ⟨by rw [HR.out]; rfl, hb1 _⟩
    · have HR : Hid (fCmp a b = if j < m then -1 else 0) := by show _ = _; rw [ht.out, cmp_end (by rw [HA.out]; omega), HB.out]
      obtain rfl : j = n := by omega
      by_cases hlm : j < m
      · have hlm' : (j : Int) < m := by omega
        go_wp2
        go_ret
        exact ⟨by rw [HR.out, if_pos hlm]; rfl, hb⟩
      · have hlm' : ¬ (j : Int) < m := by omega
        go_wp2
        go_ret
        exact ⟨by rw [HR.out, if_neg hlm]; rfl, hb⟩
theorem cmp_any (xa : Option Addr) (n c : Nat) (a : List Pr) (ya : Option Addr) (m d : Nat) (b : List Pr) (w : World) (hn : n ≤ 9223372036854775807) (hm : m ≤ 9223372036854775807) (hx : Ps w xa n a) (hy : Ps w ya m b) :
    Calls Tryz.prog 21 #[.slice xa n c, .slice ya m d] w fun e w' => e = .returned (.int .i64 (fCmp a b)) ∧ Below w.heap.size w w' := by
  have h := cmpFunc_any xa n c a ya m d b w hn hm hx hy
  go_enter Tryz.func21, Tryz.ntmps21
  go_wp2_with fail
  refine h.mono ?_
  rintro e w1 ⟨rfl, hb⟩
  go_wp2
  go_ret
  exact ⟨rfl, hb⟩
end Go.Proofs.YtldlhpokkidmlaaGreatDoor
