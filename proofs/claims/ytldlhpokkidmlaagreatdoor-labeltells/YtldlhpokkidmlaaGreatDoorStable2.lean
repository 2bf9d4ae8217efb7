/- slices.SortStableFunc by names, twenty to thirty-nine pairs. -/
import Derived.Test.YtldlhpokkidmlaaGreatDoorSym
namespace Go.Proofs.YtldlhpokkidmlaaGreatDoor
open Go.RowKit Go.Shelf Go.Lib

theorem own_sorted {w : World} {base g n cap q : Nat} {l : List Pr} {d : Array Pr} {os : Array Obj} (h : Own w base (.slice (some ⟨g, 0, none⟩) n cap) l) (hd : d.size = l.length) : Own (sortWorldK encP 2 w g 0 q d os) base (.slice (some ⟨g, 0, none⟩) n cap) d.toList := by
  have hn0 := (Own.holds h).2.1
  have h1 : Own (Sort.putRowK encP 2 (Sort.ahead w q) g 0 d) base (.slice (some ⟨g, 0, none⟩) n cap) d.toList := by
    rcases h.2 with ⟨e0, _⟩ | ⟨g', cap', cur, e0, hb, hg, hn, hm, hs, ht⟩
    · cases e0
    · injection e0 with e1 _ e3
      injection e1 with e1
      injection e1 with e1
      subst e1; subst e3
      have hdl : d.toList.length = n := by rw [Array.length_toList, hd, hn0]
      refine ⟨by rw [cellsP_length], .inr ⟨g, cap, Sort.putCells id 0 (Sort.flatK encP 2 d) cur, by rw [hdl], hb, ?_, by rw [hdl, hn0]; exact hn, hm, by simpa [Sort.putCells] using hs, ?_⟩⟩
      · simp [Sort.putRowK, Sort.putRow, Sort.mapBlock, Sort.ahead, Array.getElem?_modify, hg, Sort.onCells]
      · apply List.ext_getElem?
        intro j
        rw [List.getElem?_take, Array.getElem?_toList, hdl]
        by_cases hj : j < n * 2
        · have hjc : j < cur.size := by rw [hs]; rw [← hn0] at hn; exact Nat.lt_of_lt_of_le hj (Nat.mul_le_mul_right 2 hn)
          have hf := cellsP_flat d.toList j (by rw [hdl]; exact hj)
          rw [if_pos hj, hf, Array.toArray_toList]
          simp only [Sort.putCells, Array.getElem?_mapIdx, Array.getElem?_eq_getElem hjc, Option.map_some]
          rw [if_pos (by rw [Sort.size_flatK, hd, ← hn0]; omega)]
          simp
        · rw [if_neg hj, List.getElem?_eq_none (by rw [cellsP_length, hdl]; omega)]
  exact h1.later (Lib.below_grow _ _ (Nat.le_refl _) 0 os)

theorem insR_any (g cap base N : Nat) (l : List Pr) (a b : Nat) (w0 w : World) (ho : Own w base (.slice (some ⟨g, 0, none⟩) N cap) l) (hab : a ≤ b) (hbl : b ≤ N) (hn : N ≤ 1000000) (hb : Below base w0 w) (hB : base ≤ w0.heap.size) :
    Calls Tryz.prog 63 #[.slice (some ⟨g, 0, none⟩) N cap, .int .i64 a, .int .i64 b, .func (.func 28) #[] #[]] w fun e w' => e = .returned (.tuple #[]) ∧ ∃ m, Own w' base (.slice (some ⟨g, 0, none⟩) N cap) m ∧ m.length = l.length ∧ (∀ n, ofN n m = ofN n l) ∧ m.take a = l.take a ∧ sortedN ((m.drop a).take (b - a)) ∧ Below base w0 w' := by
  obtain ⟨hH, hNl, hbg, hlt⟩ := Own.holds ho
  have es : l.toArray.size = N := by simp [hNl]
  have hcon := AnyQ.insertionSortCmpFunc Tryz.insP 2 Tryz.isAgg43 Tryz.sizeOf43 encP (fun _ => rfl) (fun x u hu => by simp [encP] at hu; rcases hu with rfl | rfl <;> rfl) nameF 28 #[] g 0 cap a b l.toArray w enters41 (lays_name g 0 _ w) hH hlt hab (by rw [es]; exact hbl) (by simp; omega)
  change Calls Tryz.prog 63 _ _ _ at hcon
  rw [es] at hcon
  refine hcon.mono ?_
  rintro e w' ⟨rfl, n, os, rfl⟩
  have hsp := Sort.insertionSort_holds (lt := ltOf nameF) swo_name l.toArray a b hab (by rw [es]; exact hbl)
  have hin : ∀ n, ofN n (Sort.insertionSort (ltOf nameF) l.toArray a b).toList = ofN n l.toArray.toList ∧ (Sort.insertionSort (ltOf nameF) l.toArray a b).size = l.toArray.size := fun n => insOuter_of a b n _ _ l.toArray rfl (by rw [es]; exact hbl)
  generalize Sort.insertionSort (ltOf nameF) l.toArray a b = d' at *
  have hsz : d'.size = l.length := by rw [(hin []).2]; simp
  refine ⟨rfl, d'.toList, own_sorted ho hsz, by simp [hsz], fun n => (hin n).1, ?_, ?_, below_sort hb hbg (Nat.le_trans hB hb.size)⟩
  · apply List.ext_getElem?
    intro i
    rw [List.getElem?_take, List.getElem?_take]
    by_cases hi : i < a
    · rw [if_pos hi, if_pos hi]
      have hi2 : i < d'.size := by rw [hsz, ← hNl]; omega
      have h := hsp.1.2.1 i (Or.inl hi)
      rw [getElem!_pos d' i hi2, getElem!_pos l.toArray i (by rw [es]; omega)] at h
      rw [Array.getElem?_toList, Array.getElem?_eq_getElem hi2, List.getElem?_eq_getElem (by rw [← hsz]; exact hi2), h]
      rfl
    · rw [if_neg hi, if_neg hi]
  · unfold sortedN
    rw [List.pairwise_iff_getElem]
    intro i j hi hj hij
    rw [List.length_take, List.length_drop] at hi hj
    simp only [Array.length_toList] at hi hj
    rw [List.getElem_take, List.getElem_take, List.getElem_drop, List.getElem_drop, Array.getElem_toList, Array.getElem_toList]
    have := hsp.2 (a + i) (a + j) (by omega) (by omega) (by omega)
    rw [lt_name, decide_eq_false_iff_not, getElem!_pos d' (a + i) (by omega), getElem!_pos d' (a + j) (by omega)] at this
    exact this
end Go.Proofs.YtldlhpokkidmlaaGreatDoor
