/- slices.Clone, slices.SortFunc by names: each for every slice of pairs. -/
import Derived.Test.YtideieolgjhbiaaGreatDoorOnly
import Derived.Test.YtideieolgjhbiaaGreatDoorShelfS
import Derived.Lib.OwnBridge
import Derived.Lib.AppendIntMem
import Derived.Laws.OwnMore
import Derived.Shelf.SlSortCmp.NoneTotal
namespace Go.Proofs.YtideieolgjhbiaaGreatDoor
open Go.RowKit

set_option maxHeartbeats 1000000 in
theorem clone_any (xa : Option Addr) (n c : Nat) (l : List Pr) (w : World) (hn : n ≤ 1000000) (hx : Ps w xa n l) :
    Calls Tryz.prog 51 #[.slice xa n c] w fun e w' => ∃ v, e = .returned v ∧ Own w' w.heap.size v l ∧ Below w.heap.size w w' := by
  obtain ⟨i0, hi, hz0, hz1, hz2⟩ := info_parts35
  have q23 : ∀ (w : World) (a : Option Addr) (n c n' c' : Nat), (binOp .eql 22 (.slice a n c) (.slice none n' c')).run Tryz.prog w = .ok (.bool a.isNone) w := fun w a n c n' c' => Lib.run_eql_slice_nil w _ _ a n c n' c' Tryz.underlying22
  have hlen := hx.1
  cases xa with
  | none =>
    have h0 : n = 0 := by
      by_cases h : 0 < n
      · obtain ⟨_, _, e, _⟩ := hx.2 h; cases e
      · omega
    subst h0
    obtain rfl : l = [] := List.length_eq_zero_iff.1 hlen
    go_enter Tryz.func51, Tryz.ntmps51
    go_wp2
    go_ret
    exact ⟨_, rfl, ⟨rfl, Or.inl ⟨rfl, rfl⟩⟩, Below.refl _ _⟩
  | some ad =>
    have hc : ∀ j u, (cellsP l)[j]? = some u → w.cell? (ad.add j) = some u := by
      intro j u hu
      have hj : j < l.length * 2 := by
        by_cases h : j < l.length * 2
        · exact h
        · rw [List.getElem?_eq_none (by rw [cellsP_length]; omega)] at hu; cases hu
      obtain ⟨b, off, e, h4⟩ := hx.2 (by omega)
      cases e
      rw [Addr.add_lit]
      have hjd : j / 2 < l.length := by omega
      obtain ⟨g1, g2⟩ := cellsP_get hjd
      obtain ⟨k1, k2⟩ := h4 (j / 2) (by omega)
      rcases Nat.mod_two_eq_zero_or_one j with hm | hm
      · have e : j / 2 * 2 = j := by omega
        rw [e] at g1 k1
        rw [k1, ← hu, g1]
      · have e : j / 2 * 2 + 1 = j := by omega
        rw [Nat.add_assoc, e] at k2
        rw [e] at g2
        rw [k2, ← hu, g2]
    have HC : Aside _ := hc
    have HL : Hid _ := hlen
    clear hc hlen
    go_enter Tryz.func51, Tryz.ntmps51
    go_wp2_with (at_builtin; go_must (refine wpList_append_own _ rfl _ _ 22 rfl w.heap.size 44 i0 (.agg #[tx [], tx []]) 2 32 Tryz.underlying22 hi hz0 hz1 hz2 zero35 (by decide) _ _ _ rfl (World.ownsRow_made w #[] 0 (Nat.le_refl _) (Nat.zero_le _) (by simp)) ad n c (cellsP l) rfl ?q1 ?q2 (cellsP_one _) ?q3 ?q4 ?q5 ?_))
    case q1 => rw [cellsP_length, HL.out]
    case q2 => exact fun j u hu => ((bal (Below.refl _ w) _).cell (p := ad.add j) (World.block_lt_of_cell? _ _ (HC.out j u hu))).trans (HC.out j u hu)
    case q3 => unfold maxLen; omega
    case q4 => omega
    case q5 => simp
    intro v' w1 hown hgrow _
    go_wp2
    go_ret
    refine ⟨v', rfl, ?_, (bal (Below.refl _ _) _).grown hgrow (by simp) (by intro k hk; simp [Value.ownBlock] at hk; omega)⟩
    unfold Own
    rw [HL.out]
    simpa using hown

/-! ### Sorted by names -/
def encP (p : Pr) : List Value := [tx p.1, tx p.2]
theorem cellsP_flat (l : List Pr) (t : Nat) (h : t < l.length * 2) : (cellsP l)[t]? = some (Sort.flatK encP 2 l.toArray)[t]! := by
  rw [Sort.get_flatK _ _ _ _ (by simpa using h)]
  have hd : t / 2 < l.length := by omega
  obtain ⟨g1, g2⟩ := cellsP_get hd
  have e0 : l.toArray[t / 2]! = l.getD (t / 2) ([], []) := by
    rw [getElem!_pos l.toArray (t / 2) (by simpa using hd), getD_at hd]
    rfl
  rw [e0]
  rcases Nat.mod_two_eq_zero_or_one t with hm | hm
  · have e : t / 2 * 2 = t := by omega
    rw [e] at g1
    rw [g1, hm]
    rfl
  · have e : t / 2 * 2 + 1 = t := by omega
    rw [e] at g2
    rw [g2, hm]
    rfl
theorem Own.holds {w : World} {base g n cap : Nat} {l : List Pr} (h : Own w base (.slice (some ⟨g, 0, none⟩) n cap) l) : Sort.HoldsK encP 2 w g 0 l.toArray ∧ n = l.length ∧ base ≤ g ∧ g < w.heap.size := by
  have h' := h
  rcases h.2 with ⟨e, _⟩ | ⟨g', cap', cur, e, hb, hg, hn, _, hs, ht⟩
  · cases e
  · cases e
    have hlt : g < w.heap.size := by
      by_cases hlt : g < w.heap.size
      · exact hlt
      · rw [Array.getElem?_eq_none (by omega)] at hg; cases hg
    refine ⟨fun j hj => ?_, rfl, hb, hlt⟩
    rw [Sort.size_flatK] at hj
    have hj' : j < l.length * 2 := by simpa using hj
    refine ⟨?_, ?_⟩
    · rw [cell_of_row _ _ _ _ _ _ hg, Nat.zero_add]
      show _ = some (Sort.flatK encP 2 l.toArray)[j]!
      rw [← cellsP_flat l j hj', ← ht, List.getElem?_take_of_lt hj']
      exact (Array.getElem?_toList).symm
    · exact World.ownsRow.frozenAt h' (0 + j)
theorem Ps.of_holds {w : World} {g : Nat} {d : Array Pr} (h : Sort.HoldsK encP 2 w g 0 d) : Ps w (some ⟨g, 0, none⟩) d.size d.toList := by
  refine ⟨by simp, fun _ => ⟨g, 0, rfl, fun j hj => ?_⟩⟩
  have e0 : d[j]! = d.toList.getD j ([], []) := by
    rw [getElem!_pos d j hj, getD_at (by simpa using hj)]
    rfl
  have h0 := (Sort.HoldsK.cell h (i := j) (c := 0) hj (by omega)).1
  have h1 := (Sort.HoldsK.cell h (i := j) (c := 1) hj (by omega)).1
  rw [e0] at h0 h1
  exact ⟨h0, h1⟩
def nameF (p q : Pr) : Int := Lib.compareBytes p.1 q.1
theorem lt_name (p q : Pr) : ltOf nameF p q = decide (p.1 < q.1) := by
  unfold ltOf nameF
  exact cmpB_lt p.1 q.1
theorem swo_name : Sort.SWO (ltOf nameF) := by
  refine ⟨fun x => ?_, fun x y z h1 h2 => ?_, fun x y z h1 h2 => ?_⟩
  · rw [lt_name]; exact decide_eq_false (str_irrefl _)
  · rw [lt_name, decide_eq_true_iff] at *
    exact str_trans h1 h2
  · rw [lt_name, decide_eq_false_iff_not] at *
    intro h
    by_cases k : y.1 < z.1
    · exact h2 k
    · by_cases k2 : z.1 < y.1
      · exact h1 (str_trans h k2)
      · rw [← str_eq k k2] at h; exact h1 h
theorem lays_name (blk off size : Nat) (w : World) : CmpLays Tryz.prog 53 #[] encP 2 nameF blk off size w := fun _ _ _ _ x y => byName_grow x y _
theorem enters41 : ∀ args w, (callFunc 53 args).run Tryz.prog w = .ok (.enter 53 args) w := enters_of Tryz.func53 (by kernel_rfl) rfl
theorem below_sort {B g m : Nat} {w0 w : World} {d : Array Pr} {os : Array Obj} (h : Below B w0 w) (hg : B ≤ g) (hB : B ≤ w.heap.size) : Below B w0 (sortWorldK encP 2 w g 0 m d os) := by
  have h1 : Below B w0 (Sort.putRowK encP 2 (Sort.ahead w m) g 0 d) := Lib.below_putRow h hg
  have hs : (Sort.putRowK encP 2 (Sort.ahead w m) g 0 d).heap.size = w.heap.size := by
    show (Sort.putRow id (Sort.ahead w m) g 0 _).heap.size = _
    rw [Sort.size_putRow]
    rfl
  exact h1.trans (Lib.below_grow B _ (by rw [hs]; exact hB) 0 os)
/-- Behind the sort: the same place holds the same pairs by their names. -/
theorem sort_any (v : Value) (base : Nat) (l : List Pr) (w0 w : World) (ho : Own w base v l) (hn : l.length ≤ 1000000) (hb : Below base w0 w) (hB : base ≤ w0.heap.size) :
    Calls Tryz.prog 52 #[v, .func (.func 53) #[] #[]] w fun e w' => e = .returned (.tuple #[]) ∧ ∃ ao cap m, v = .slice ao l.length cap ∧ Ps w' ao l.length m ∧ m.Perm l ∧ sortedN m ∧ Below base w0 w' := by
  rcases ho.2 with ⟨rfl, h0⟩ | ⟨g, cap, cur, rfl, _⟩
  · obtain rfl : l = [] := List.length_eq_zero_iff.1 h0
    have hcon := AnyF.slices_SortFunc_none Tryz.sortP none 0 (.func (.func 53) #[] #[]) w
    change Calls Tryz.prog 52 _ _ _ at hcon
    refine hcon.mono ?_
    rintro e w' ⟨rfl, rfl⟩
    exact ⟨rfl, none, 0, [], rfl, Ps.nil _ _, List.Perm.refl _, List.Pairwise.nil, hb⟩
  · obtain ⟨hH, _, hbg, hlt⟩ := Own.holds ho
    have hcon := AnyQ.slices_SortFunc Tryz.sortP 2 Tryz.isAgg44 Tryz.sizeOf44 encP (fun _ => rfl) (fun x u hu => by simp [encP] at hu; rcases hu with rfl | rfl <;> rfl) nameF swo_name 53 #[] g 0 cap l.toArray w enters41 (lays_name g 0 _ w) hH hlt (by simp; omega)
    change Calls Tryz.prog 52 _ _ _ at hcon
    have es : l.toArray.size = l.length := by simp
    rw [es] at hcon
    refine hcon.mono ?_
    rintro e w' ⟨rfl, d', n, os, hp, hs, rfl⟩
    have hsz : d'.size = l.length := by rw [hp.1]; simp
    have hH' := holdsK_sortWorldK_c encP 2 w g 0 l.toArray d' n os hH hlt (by rw [hsz]; simp)
    have hps := Ps.of_holds hH'
    rw [hsz] at hps
    refine ⟨rfl, _, _, d'.toList, rfl, hps, ?_, ?_, below_sort hb hbg (Nat.le_trans hB hb.size)⟩
    · have h2 := hp.2.2
      have e1 : (d'.extract 0 l.length) = d' := by rw [← hsz]; exact Array.extract_size
      have e2 : (l.toArray.extract 0 l.length) = l.toArray := by rw [← es]; exact Array.extract_size
      rw [e1, e2] at h2
      exact h2
    · unfold sortedN
      rw [List.pairwise_iff_getElem]
      intro i j hi hj hij
      simp at hi hj
      have := hs i j (Nat.zero_le _) hij (by omega)
      rw [lt_name, decide_eq_false_iff_not, getElem!_pos d' i (by omega), getElem!_pos d' j (by omega)] at this
      exact this
end Go.Proofs.YtideieolgjhbiaaGreatDoor
