/- slices.SortStableFunc by names, fewer than twenty pairs: sorted, and each name's pairs in their order. -/
import Derived.Test.YtideieolgjhbiaaGreatDoorSort
namespace Go.Proofs.YtideieolgjhbiaaGreatDoor
open Go.RowKit

abbrev ofN (n : Str) (l : List Pr) : List Pr := l.filter fun p => decide (p.1 = n)
theorem swp_app (pre post : List Pr) (x y : Pr) : (Sort.swp (pre ++ x :: y :: post).toArray (pre.length + 1) pre.length) = (pre ++ y :: x :: post).toArray := by
  have h0 : (pre ++ x :: y :: post).toArray[pre.length]! = x := by
    rw [getElem!_pos _ _ (by simp)]
    simp
  have h1 : (pre ++ x :: y :: post).toArray[pre.length + 1]! = y := by
    rw [getElem!_pos _ _ (by simp)]
    simp [List.getElem_append_right]
  unfold Sort.swp
  rw [h0, h1]
  simp
theorem arr_split (d : Array Pr) (j : Nat) (h : j + 1 < d.size) : ∃ pre x y post, d = (pre ++ x :: y :: post).toArray ∧ pre.length = j := by
  refine ⟨d.toList.take j, d[j], d[j + 1], d.toList.drop (j + 2), ?_, by simp; omega⟩
  have e : d.toList = d.toList.take j ++ d[j] :: d[j + 1] :: d.toList.drop (j + 2) := by
    conv => lhs; rw [← List.take_append_drop j d.toList]
    rw [List.drop_eq_getElem_cons (by simp; omega), List.drop_eq_getElem_cons (by simp; omega)]
    simp
  rw [← e]
theorem swp_of (d : Array Pr) (j : Nat) (h : j + 1 < d.size) (hlt : ltOf nameF d[j + 1]! d[j]! = true) (n : Str) : ofN n (Sort.swp d (j + 1) j).toList = ofN n d.toList := by
  obtain ⟨pre, x, y, post, rfl, rfl⟩ := arr_split d j h
  have h0 : (pre ++ x :: y :: post).toArray[pre.length]! = x := by
    rw [getElem!_pos _ _ (by simp)]
    simp
  have h1 : (pre ++ x :: y :: post).toArray[pre.length + 1]! = y := by
    rw [getElem!_pos _ _ (by simp)]
    simp [List.getElem_append_right]
  rw [h0, h1, lt_name, decide_eq_true_iff] at hlt
  rw [swp_app]
  have hne : ¬ (y.1 = n ∧ x.1 = n) := fun ⟨a, b⟩ => by rw [a, b] at hlt; exact str_irrefl _ hlt
  show (pre ++ y :: x :: post).filter _ = (pre ++ x :: y :: post).filter _
  rw [List.filter_append, List.filter_append]
  congr 1
  by_cases hx : x.1 = n
  · have hy : ¬ y.1 = n := fun e => hne ⟨e, hx⟩
    simp [hx, hy]
  · by_cases hy : y.1 = n
    · simp [hx, hy]
    · simp [hx, hy]
theorem insInner_of (a : Nat) (n : Str) : ∀ (j : Nat) (d : Array Pr), j < d.size → ofN n (Sort.insInner (ltOf nameF) a j d).toList = ofN n d.toList ∧ (Sort.insInner (ltOf nameF) a j d).size = d.size
  | 0, d, _ => ⟨rfl, rfl⟩
  | j + 1, d, h => by
    rw [Sort.insInner]
    split
    · rename_i hc
      simp only [Bool.and_eq_true] at hc
      have hs : (Sort.swp d (j + 1) j).size = d.size := by simp [Sort.swp]
      have ih := insInner_of a n j (Sort.swp d (j + 1) j) (by rw [hs]; omega)
      exact ⟨ih.1.trans (swp_of d j h hc.2 n), ih.2.trans hs⟩
    · exact ⟨rfl, rfl⟩
theorem insOuter_of (a b : Nat) (n : Str) : ∀ (k i : Nat) (d : Array Pr), b - i = k → b ≤ d.size → ofN n (Sort.insOuter (ltOf nameF) a b i d).toList = ofN n d.toList ∧ (Sort.insOuter (ltOf nameF) a b i d).size = d.size
  | 0, i, d, hk, _ => by rw [Sort.insOuter, if_neg (by omega)]; exact ⟨rfl, rfl⟩
  | k + 1, i, d, hk, hb => by
    rw [Sort.insOuter, if_pos (by omega)]
    have h1 := insInner_of a n i d (by omega)
    have h2 := insOuter_of a b n k (i + 1) (Sort.insInner (ltOf nameF) a i d) (by omega) (by rw [h1.2]; exact hb)
    exact ⟨h2.1.trans h1.1, h2.2.trans h1.2⟩
theorem insertion_of (d : Array Pr) (n : Str) : ofN n (Sort.insertionSort (ltOf nameF) d 0 d.size).toList = ofN n d.toList ∧ (Sort.insertionSort (ltOf nameF) d 0 d.size).size = d.size :=
  insOuter_of 0 d.size n _ _ d rfl (Nat.le_refl _)

/-- One block's insertion sort of nothing. -/
theorem ins_none (ao : Option Addr) (c : Nat) (f : Value) (w : World) : Calls Tryz.prog 76 #[.slice ao 0 c, .int .i64 0, .int .i64 0, f] w fun e w' => e = .returned (.tuple #[]) ∧ w = w' := by
  go_enter Tryz.func76, Tryz.ntmps76
  go_wp2_with fail
  go_loop [8] (fun i => i = .int .i64 1) (fun _ => 0)
  case atStart => rfl
  case round =>
    obtain rfl := hrel
    go_wp2
    go_end0
    exact ⟨rfl, rfl⟩
theorem ins_any (g cap base : Nat) (l : List Pr) (w0 w : World) (ho : Own w base (.slice (some ⟨g, 0, none⟩) l.length cap) l) (hn : l.length ≤ 1000000) (hb : Below base w0 w) (hB : base ≤ w0.heap.size) :
    Calls Tryz.prog 76 #[.slice (some ⟨g, 0, none⟩) l.length cap, .int .i64 0, .int .i64 l.length, .func (.func 53) #[] #[]] w fun e w' => e = .returned (.tuple #[]) ∧ ∃ m, Ps w' (some ⟨g, 0, none⟩) l.length m ∧ sortedN m ∧ (∀ n, ofN n m = ofN n l) ∧ Below base w0 w' := by
  obtain ⟨hH, _, hbg, hlt⟩ := Own.holds ho
  have es : l.toArray.size = l.length := by simp
  have hcon := AnyQ.insertionSortCmpFunc Tryz.insP 2 Tryz.isAgg44 Tryz.sizeOf44 encP (fun _ => rfl) (fun x u hu => by simp [encP] at hu; rcases hu with rfl | rfl <;> rfl) nameF 53 #[] g 0 cap 0 l.length l.toArray w enters41 (lays_name g 0 _ w) hH hlt (Nat.zero_le _) (by simp) (by simp; omega)
  change Calls Tryz.prog 76 _ _ _ at hcon
  rw [es] at hcon
  refine hcon.mono ?_
  rintro e w' ⟨rfl, n, os, rfl⟩
  have hsp := Sort.insertionSort_holds (lt := ltOf nameF) swo_name l.toArray 0 l.length (Nat.zero_le _) (by simp)
  have hin := fun n => insertion_of l.toArray n
  rw [es] at hin
  generalize Sort.insertionSort (ltOf nameF) l.toArray 0 l.length = d' at *
  have hsz : d'.size = l.length := by rw [(hin []).2]
  have hH' := holdsK_sortWorldK_c encP 2 w g 0 l.toArray d' n os hH hlt (by rw [hsz]; simp)
  have hps := Ps.of_holds hH'
  rw [hsz] at hps
  refine ⟨rfl, d'.toList, hps, ?_, fun n => (hin n).1, below_sort hb hbg (Nat.le_trans hB hb.size)⟩
  unfold sortedN
  rw [List.pairwise_iff_getElem]
  intro i j hi hj hij
  simp at hi hj
  have := hsp.2 i j (Nat.zero_le _) hij (by omega)
  rw [lt_name, decide_eq_false_iff_not, getElem!_pos d' i (by omega), getElem!_pos d' j (by omega)] at this
  exact this

set_option maxHeartbeats 1000000 in
theorem stableC_any (ao : Option Addr) (N cap : Nat) (f : Value) (w : World) (hn : N < 20) (X : Ending → World → Prop)
    (hc : Calls Tryz.prog 76 #[.slice ao N cap, .int .i64 0, .int .i64 N, f] w fun e w' => e = .returned (.tuple #[]) ∧ X e w') :
    Calls Tryz.prog 69 #[.slice ao N cap, .int .i64 N, f] w fun e w' => e = .returned (.tuple #[]) ∧ X e w' := by
  have h1 : ¬ (20 : Int) ≤ N := by omega
  have h2 : ¬ (20 : Int) < N := by omega
  have HX := fun (_ : Unit) => hc
  clear hc
  go_enter Tryz.func69, Tryz.ntmps69
  go_wp2_with fail
  go_loop [7, 8] (fun a b => a = .int .i64 0 ∧ b = .int .i64 20) (fun _ _ => 0)
  case atStart => exact ⟨rfl, rfl⟩
  case round =>
    obtain ⟨rfl, rfl⟩ := hrel
    go_wp2_with fail
    refine (HX ()).mono ?_
    rintro e w' ⟨rfl, hX⟩
    go_wp2_with fail
    go_loopw [6] (fun b W => b = .int .i64 20 ∧ W = w') (fun _ _ => 0)
    case atStart => exact ⟨rfl, rfl⟩
    case round =>
      obtain ⟨rfl, rfl⟩ := hrel
      go_wp2
      go_end0
      exact ⟨rfl, hX⟩
set_option maxHeartbeats 1000000 in
theorem stable_any (v : Value) (base : Nat) (l : List Pr) (w0 w : World) (ho : Own w base v l) (hn : l.length < 20) (hb : Below base w0 w) (hB : base ≤ w0.heap.size) :
    Calls Tryz.prog 57 #[v, .func (.func 53) #[] #[]] w fun e w' => e = .returned (.tuple #[]) ∧ ∃ ao cap m, v = .slice ao l.length cap ∧ Ps w' ao l.length m ∧ sortedN m ∧ (∀ n, ofN n m = ofN n l) ∧ Below base w0 w' := by
  rcases ho.2 with ⟨rfl, h0⟩ | ⟨g, cap, cur, rfl, _⟩
  · obtain rfl : l = [] := List.length_eq_zero_iff.1 h0
    have hcon := stableC_any none 0 0 (.func (.func 53) #[] #[]) w (by omega) (fun _ w' => w = w') ((ins_none none 0 _ w).mono fun e w' ⟨a, b⟩ => ⟨a, b⟩)
    go_enter Tryz.func57, Tryz.ntmps57
    go_wp2_with fail
    refine hcon.mono ?_
    rintro e w' ⟨rfl, rfl⟩
    go_wp2
    go_end0
    exact ⟨rfl, none, 0, [], rfl, Ps.nil _ _, List.Pairwise.nil, fun _ => rfl, hb⟩
  · have hcon := stableC_any (some ⟨g, 0, none⟩) l.length cap (.func (.func 53) #[] #[]) w hn (fun _ w' => ∃ m, Ps w' (some ⟨g, 0, none⟩) l.length m ∧ sortedN m ∧ (∀ n, ofN n m = ofN n l) ∧ Below base w0 w') ((ins_any g cap base l w0 w ho (by omega) hb hB).mono fun e w' ⟨a, b⟩ => ⟨a, b⟩)
    generalize l.length = N at *
    have HC := fun (_ : Unit) => hcon
    clear hcon ho
    go_enter Tryz.func57, Tryz.ntmps57
    go_wp2_with fail
    refine (HC ()).mono ?_
    rintro e w' ⟨rfl, m, k1, k2, k3, k4⟩
    go_wp2
    go_end0
    exact ⟨rfl, _, _, m, rfl, k1, k2, k3, k4⟩
end Go.Proofs.YtideieolgjhbiaaGreatDoor
