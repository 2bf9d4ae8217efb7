/- copy within a row of pairs, a pair laid into it. -/
import Derived.Test.YtideieolgjhbiaaGreatDoorConcat
import Derived.Laws.CopyOwn
import Derived.SliceStrings
namespace Go.Proofs.YtideieolgjhbiaaGreatDoor
open Go.RowKit

theorem run_copy2 (w : World) (ty : TypeId) (g o dLen dCap : Nat) (a : Addr) (sLen sCap N : Nat) (cur : Array Value) (t : TypeId) (cs : List Value)
    (hg : w.heap[g]? = some (.cells cur t (0, 0))) (hN : N = Nat.min sLen dLen) (hn : cs.length = N * 2)
    (hsrc : ∀ j v, cs[j]? = some v → w.cell? (a.add j) = some v) (hfit : o + cs.length ≤ cur.size) (h1 : ∀ v ∈ cs, v.oneCell' = true) :
    (Builtin.copy_ #[22, 22] ty #[.slice (some ⟨g, o, none⟩) dLen dCap, .slice (some a) sLen sCap]).run Tryz.prog w =
      .ok (goInt N) (w.setRow g (cur.toList.take o ++ cs ++ cur.toList.drop (o + cs.length)).toArray) := by
  obtain ⟨i0, hi, hz0, hz1, hz2⟩ := info_parts35
  have hl := run_loadCells_list (P := Tryz.prog) w a cs hsrc
  have hst := run_storeCells_at Tryz.prog g o t cs 0 cur w hg (by simpa using hfit) h1
  rw [hn] at hl
  simp [Builtin.copy_, run_underlying Tryz.underlying22, Builtin.lenOf, Builtin.firstCells, sizeOf, typeInfo, hi, hz1, ← hN, hl, hst]
theorem run_copy2_none (w : World) (ty : TypeId) (d a : Option Addr) (dLen dCap sLen sCap : Nat) (hN : Nat.min sLen dLen = 0) :
    (Builtin.copy_ #[22, 22] ty #[.slice d dLen dCap, .slice a sLen sCap]).run Tryz.prog w = .ok (goInt 0) w := by
  obtain ⟨i0, hi, hz0, hz1, hz2⟩ := info_parts35
  have hl := fun a => run_loadCells_list (P := Tryz.prog) w a [] (by simp)
  simp only [List.length_nil] at hl
  cases d <;> cases a <;> simp [Builtin.copy_, run_underlying Tryz.underlying22, Builtin.lenOf, Builtin.firstCells, sizeOf, typeInfo, hi, hN, storeCells, hl]

theorem cellsP_take (l : List Pr) (k : Nat) : (cellsP l).take (k * 2) = cellsP (l.take k) := by
  induction l generalizing k with
  | nil => simp [cellsP_nil]
  | cons p l ih =>
    cases k with
    | zero => simp [cellsP_nil]
    | succ k =>
      have e : (k + 1) * 2 = k * 2 + 1 + 1 := by omega
      rw [e, cellsP_cons, List.take_succ_cons, List.take_succ_cons, ih, List.take_succ_cons, cellsP_cons]
theorem own_copy {w : World} {base g M cap : Nat} {R : List Pr} (ho : Own w base (.slice (some ⟨g, 0, none⟩) M cap) R) (k : Nat) (h : k + 1 ≤ M) :
    ∃ cur : Array Value, w.heap[g]? = some (.cells cur 44 (0, 0)) ∧ M * 2 ≤ cur.size ∧
      Own (w.setRow g (cur.toList.take ((k + 1) * 2) ++ cellsP ((R.drop k).take (M - k - 1)) ++ cur.toList.drop ((k + 1) * 2 + (cellsP ((R.drop k).take (M - k - 1))).length)).toArray) base (.slice (some ⟨g, 0, none⟩) M cap) (R.take (k + 1) ++ (R.drop k).take (M - k - 1)) := by
  rcases ho.2 with ⟨e, _⟩ | ⟨g', cap', cur, e, hb, hg, hn, hm, hs, ht⟩
  · cases e
  · cases e
    have hsz : R.length * 2 ≤ cur.size := by rw [hs]; omega
    refine ⟨cur, hg, hsz, ?_⟩
    have hcl : (cellsP ((R.drop k).take (R.length - k - 1))).length = (R.length - k - 1) * 2 := by rw [cellsP_length]; simp
    have hlen : (R.take (k + 1) ++ (R.drop k).take (R.length - k - 1)).length = R.length := by simp; omega
    unfold Own
    rw [hlen]
    refine ⟨by rw [cellsP_length, hlen], Or.inr ⟨g, cap, _, rfl, hb, setRow_heap w g cur _ 44 _ hg, by omega, hm, ?_, ?_⟩⟩
    · rw [List.size_toArray, List.length_append, List.length_append, hcl, List.length_take, List.length_drop, Array.length_toList, hs]
      rw [hs] at hsz
      omega
    · have hA : (cur.toList.take ((k + 1) * 2)).length = (k + 1) * 2 := by rw [List.length_take, Array.length_toList]; omega
      have e1 : cur.toList.take ((k + 1) * 2) = cellsP (R.take (k + 1)) := by
        rw [← cellsP_take, ← ht, List.take_take]
        congr 1
        omega
      show (cur.toList.take ((k + 1) * 2) ++ cellsP ((R.drop k).take (R.length - k - 1)) ++ _).take (R.length * 2) = _
      rw [List.take_append_of_le_length (by rw [List.length_append, hA, hcl]; omega), List.take_of_length_le (by rw [List.length_append, hA, hcl]; omega), e1, cellsP_append]
theorem set_cells {R : List Pr} {i : Nat} (hi : i < R.length) (x : Pr) : ((cellsP R).set (i * 2) (tx x.1)).set (i * 2 + 1) (tx x.2) = cellsP (R.set i x) := by
  induction R generalizing i with
  | nil => cases hi
  | cons p R ih =>
    cases i with
    | zero => rfl
    | succ i =>
      have e : (i + 1) * 2 = i * 2 + 1 + 1 := by omega
      rw [e, cellsP_cons, List.set_cons_succ, List.set_cons_succ, List.set_cons_succ, List.set_cons_succ, ih (by simpa using hi), List.set_cons_succ, cellsP_cons]
theorem own_put {w : World} {base g M cap : Nat} {R : List Pr} (ho : Own w base (.slice (some ⟨g, 0, none⟩) M cap) R) (i : Nat) (x : Pr) (h : i < M) :
    Own ((w.setCell ⟨g, i * 2, none⟩ (tx x.1)).setCell ⟨g, i * 2 + 1, none⟩ (tx x.2)) base (.slice (some ⟨g, 0, none⟩) M cap) (R.set i x) := by
  rcases ho.2 with ⟨e, _⟩ | ⟨g', cap', cur, e, hb, hg, hn, hm, hs, ht⟩
  · cases e
  · cases e
    rw [setCell_eq_setRow w g (i * 2) cur 44 (0, 0) _ hg, setCell_eq_setRow _ g (i * 2 + 1) _ 44 (0, 0) _ (setRow_heap w g cur _ 44 _ hg), setRow_setRow]
    unfold Own
    rw [List.length_set]
    refine ⟨by rw [cellsP_length, List.length_set], Or.inr ⟨g, cap, _, rfl, hb, setRow_heap w g cur _ 44 _ hg, hn, hm, by simp [hs], ?_⟩⟩
    rw [Array.toList_setIfInBounds, Array.toList_setIfInBounds, ← set_cells h, ← ht, List.take_set, List.take_set]
end Go.Proofs.YtideieolgjhbiaaGreatDoor
