/- Samples and bad lines as they are read; what is known of scraped text: true. -/
import Derived.Test.YtcbjhfnlhpallaaGreatDoorEParse
namespace Go.Proofs.YtcbjhfnlhpallaaGreatDoor
open Go.RowKit Go.Maps

def Xs (w : World) (ao : Option Addr) (n : Nat) (o : List Scr) : Prop := o.length = n ∧ (0 < n → ∃ b off, ao = some ⟨b, off, none⟩ ∧ ∀ j, j < n → ∃ la lc, Ps w la (o.getD j scr0).ls.length (o.getD j scr0).ls ∧ w.cell? ⟨b, off + j * 6, none⟩ = some (.slice la (o.getD j scr0).ls.length lc) ∧ w.cell? ⟨b, off + j * 6 + 1, none⟩ = some (.bool (o.getD j scr0).ov) ∧ w.cell? ⟨b, off + j * 6 + 2, none⟩ = some (.int .i64 (o.getD j scr0).n) ∧ w.cell? ⟨b, off + j * 6 + 3, none⟩ = some (.int .i64 (o.getD j scr0).t) ∧ w.cell? ⟨b, off + j * 6 + 4, none⟩ = some (.bool (o.getD j scr0).has) ∧ w.cell? ⟨b, off + j * 6 + 5, none⟩ = some (.int .i64 (o.getD j scr0).kind))
def Bs (w : World) (ao : Option Addr) (n : Nat) (l : List (Int × Int)) : Prop := l.length = n ∧ (0 < n → ∃ b off, ao = some ⟨b, off, none⟩ ∧ ∀ j, j < n → w.cell? ⟨b, off + j * 2, none⟩ = some (.int .i64 (l.getD j (0, 0)).1) ∧ w.cell? ⟨b, off + j * 2 + 1, none⟩ = some (.int .i64 (l.getD j (0, 0)).2))
theorem Xs.later {w w' : World} {ao : Option Addr} {n : Nat} {o : List Scr} (h : Xs w ao n o) (hb : Below w.heap.size w w') : Xs w' ao n o := by
  obtain ⟨h1, h2⟩ := h
  refine ⟨h1, fun hp => ?_⟩
  obtain ⟨b, off, e, hc⟩ := h2 hp
  refine ⟨b, off, e, fun j hj => ?_⟩
  obtain ⟨la, lc, p, c0, c1, c2, c3, c4, c5⟩ := hc j hj
  exact ⟨la, lc, p.later hb, cell_later' c0 hb, cell_later' c1 hb, cell_later' c2 hb, cell_later' c3 hb, cell_later' c4 hb, cell_later' c5 hb⟩
theorem Bs.later {w w' : World} {ao : Option Addr} {n : Nat} {l : List (Int × Int)} (h : Bs w ao n l) (hb : Below w.heap.size w w') : Bs w' ao n l := by
  obtain ⟨h1, h2⟩ := h
  refine ⟨h1, fun hp => ?_⟩
  obtain ⟨b, off, e, hc⟩ := h2 hp
  exact ⟨b, off, e, fun j hj => ⟨cell_later' (hc j hj).1 hb, cell_later' (hc j hj).2 hb⟩⟩
theorem cellsX_cons (p : Value × Scr) (l : List (Value × Scr)) : cellsX (p :: l) = p.1 :: .bool p.2.ov :: .int .i64 p.2.n :: .int .i64 p.2.t :: .bool p.2.has :: .int .i64 p.2.kind :: cellsX l := rfl
theorem cellsX_up (p : Value × Scr) (l : List (Value × Scr)) (i : Nat) : (cellsX (p :: l))[i + 6]? = (cellsX l)[i]? := by
  rw [cellsX_cons]
  rfl
def x00 : Value × Scr := (.slice none 0 0, scr0)
theorem cellsX_get {l : List (Value × Scr)} {j : Nat} (h : j < l.length) : (cellsX l)[j * 6]? = some (l.getD j x00).1 ∧ (cellsX l)[j * 6 + 1]? = some (.bool (l.getD j x00).2.ov) ∧ (cellsX l)[j * 6 + 2]? = some (.int .i64 (l.getD j x00).2.n) ∧ (cellsX l)[j * 6 + 3]? = some (.int .i64 (l.getD j x00).2.t) ∧ (cellsX l)[j * 6 + 4]? = some (.bool (l.getD j x00).2.has) ∧ (cellsX l)[j * 6 + 5]? = some (.int .i64 (l.getD j x00).2.kind) := by
  induction l generalizing j with
  | nil => simp at h
  | cons p l ih =>
    cases j with
    | zero => rw [cellsX_cons]; simp
    | succ j =>
      have h2 := ih (j := j) (by simpa using h)
      have e0 := cellsX_up p l (j * 6)
      have e1 := cellsX_up p l (j * 6 + 1)
      have e2 := cellsX_up p l (j * 6 + 2)
      have e3 := cellsX_up p l (j * 6 + 3)
      have e4 := cellsX_up p l (j * 6 + 4)
      have e5 := cellsX_up p l (j * 6 + 5)
      have k : (p :: l).getD (j + 1) x00 = l.getD j x00 := by simp
      rw [k, show (j + 1) * 6 = j * 6 + 6 from by omega, e0, show j * 6 + 6 + 1 = j * 6 + 1 + 6 from by omega, e1, show j * 6 + 6 + 2 = j * 6 + 2 + 6 from by omega, e2, show j * 6 + 6 + 3 = j * 6 + 3 + 6 from by omega, e3, show j * 6 + 6 + 4 = j * 6 + 4 + 6 from by omega, e4, show j * 6 + 6 + 5 = j * 6 + 5 + 6 from by omega, e5]
      exact h2
theorem cellsB_cons (p : Int × Int) (l : List (Int × Int)) : cellsB (p :: l) = .int .i64 p.1 :: .int .i64 p.2 :: cellsB l := rfl
theorem cellsB_get {l : List (Int × Int)} {j : Nat} (h : j < l.length) : (cellsB l)[j * 2]? = some (.int .i64 (l.getD j (0, 0)).1) ∧ (cellsB l)[j * 2 + 1]? = some (.int .i64 (l.getD j (0, 0)).2) := by
  induction l generalizing j with
  | nil => simp at h
  | cons p l ih =>
    cases j with
    | zero => rw [cellsB_cons]; simp
    | succ j =>
      have h2 := ih (j := j) (by simpa using h)
      have e0 : (cellsB (p :: l))[j * 2 + 2]? = (cellsB l)[j * 2]? := by rw [cellsB_cons]; rfl
      have e1 : (cellsB (p :: l))[j * 2 + 1 + 2]? = (cellsB l)[j * 2 + 1]? := by rw [cellsB_cons]; rfl
      have k : (p :: l).getD (j + 1) (0, 0) = l.getD j (0, 0) := by simp
      rw [k, show (j + 1) * 2 = j * 2 + 2 from by omega, e0, show j * 2 + 2 + 1 = j * 2 + 1 + 2 from by omega, e1]
      exact h2
theorem row_at {w : World} {base e size n : Nat} {v : Value} {xs : List Value} (h : w.ownsRow base e size v n xs) : ∃ ao cap, v = .slice ao n cap ∧ (0 < n → ∃ g, ao = some ⟨g, 0, none⟩ ∧ g < w.heap.size ∧ base ≤ g ∧ ∀ i, i < n * size → w.cell? ⟨g, i, none⟩ = xs[i]?) := by
  rcases h.2 with ⟨rfl, rfl⟩ | ⟨g, cap, cur, rfl, hb, hg, hn, _, hs, ht⟩
  · exact ⟨none, 0, rfl, fun h => by omega⟩
  · refine ⟨_, cap, rfl, fun _ => ⟨g, rfl, ?_, hb, fun i hi => ?_⟩⟩
    · by_cases hlt : g < w.heap.size
      · exact hlt
      · rw [Array.getElem?_eq_none (by omega)] at hg; cases hg
    · rw [cell_of_row _ _ _ _ _ _ hg, ← ht, List.getElem?_take_of_lt hi]
      exact (Array.getElem?_toList).symm
theorem OwnX.view {w : World} {v : Value} {l : List (Value × Scr)} {o : List Scr} (h : OwnX w v l) (ho : l.map (·.2) = o) : ∃ ao cap, v = .slice ao o.length cap ∧ Xs w ao o.length o := by
  have hlen : o.length = l.length := by rw [← ho]; simp
  obtain ⟨ao, cap, e, hc⟩ := row_at h.row
  refine ⟨ao, cap, by rw [hlen]; exact e, rfl, fun hp => ?_⟩
  obtain ⟨g, ea, _, _, hcell⟩ := hc (by omega)
  refine ⟨g, 0, ea, fun j hj => ?_⟩
  have hj' : j < l.length := by omega
  obtain ⟨g0, g1, g2, g3, g4, g5⟩ := cellsX_get hj'
  have hx : o.getD j scr0 = (l.getD j x00).2 := by
    rw [← ho]
    simp [List.getD, List.getElem?_eq_getElem hj']
  have hm : l.getD j x00 ∈ l := by simp [List.getD, List.getElem?_eq_getElem hj']
  rw [hx]
  obtain ⟨la, lc, ev, hp⟩ := h.lab _ hm
  rw [ev] at g0
  refine ⟨la, lc, hp, ?_, ?_, ?_, ?_, ?_, ?_⟩ <;> rw [Nat.zero_add]
  · rw [hcell _ (by omega)]; exact g0
  · rw [hcell _ (by omega)]; exact g1
  · rw [hcell _ (by omega)]; exact g2
  · rw [hcell _ (by omega)]; exact g3
  · rw [hcell _ (by omega)]; exact g4
  · rw [hcell _ (by omega)]; exact g5
theorem OwnBd.view {w : World} {v : Value} {l : List (Int × Int)} (h : OwnBd w v l) : ∃ ao cap, v = .slice ao l.length cap ∧ Bs w ao l.length l := by
  obtain ⟨ao, cap, e, hc⟩ := row_at h
  refine ⟨ao, cap, e, rfl, fun hp => ?_⟩
  obtain ⟨g, ea, _, _, hcell⟩ := hc hp
  refine ⟨g, 0, ea, fun j hj => ?_⟩
  obtain ⟨g0, g1⟩ := cellsB_get hj
  refine ⟨?_, ?_⟩ <;> rw [Nat.zero_add]
  · rw [hcell _ (by omega)]; exact g0
  · rw [hcell _ (by omega)]; exact g1
/-- Parse, as its callers read it. -/
theorem parseV_any (s : Str) (w : World) (hs : s.length ≤ 100000) (he : Ev w) :
    Calls Tryz.prog 10 #[tx s] w fun e w' => ∃ ao cap bo bcap, e = .returned (.tuple #[.slice ao (bodyS s).out.length cap, .slice bo (bodyS s).bad.length bcap]) ∧ Xs w' ao (bodyS s).out.length (bodyS s).out ∧ Bs w' bo (bodyS s).bad.length (bodyS s).bad ∧ Below w.heap.size w w' := by
  refine (parseX_any s w hs he).mono ?_
  rintro e w' ⟨sv, bv, l, rfl, hx, ho, hb, hB⟩
  obtain ⟨ao, cap, rfl, h1⟩ := hx.view ho
  obtain ⟨bo, bcap, rfl, h2⟩ := hb.view
  exact ⟨ao, cap, bo, bcap, rfl, h1, h2, hB⟩

/-! ### known -/
def kB : Str := [35, 32, 84, 89, 80, 69, 32, 117, 112, 32, 103, 97, 117, 103, 101, 10, 117, 112, 123, 106, 111, 98, 61, 34, 97, 32, 98, 34, 125, 32, 49, 46, 53, 32, 55, 10, 10, 119, 104, 97, 116, 10, 117, 112, 32, 111, 118, 102, 10]
def kX0 : Scr := ⟨[(nm, [117, 112]), ([106, 111, 98], [97, 32, 98])], false, 1500000, 7, true, 2⟩
def kX1 : Scr := ⟨[(nm, [117, 112])], true, 0, 0, false, 2⟩
def scrB (l m : List Scr) : Bool := decide (l.length = m.length) && (List.zip l m).all fun p => eqS p.1 p.2
theorem scrB_eq : ∀ {l m : List Scr}, scrB l m = true → l = m
  | [], [], _ => rfl
  | [], _ :: _, h => by simp [scrB] at h
  | _ :: _, [], h => by simp [scrB] at h
  | a :: l, b :: m, h => by
    simp only [scrB, List.length_cons, List.zip_cons_cons, List.all_cons, Bool.and_eq_true, decide_eq_true_iff] at h
    have e := (eqS_iff a b).1 h.2.1
    subst e
    rw [scrB_eq (l := l) (m := m) (by simp only [scrB, Bool.and_eq_true, decide_eq_true_iff]; exact ⟨by omega, h.2.2⟩)]
theorem k_out : (bodyS kB).out = [kX0, kX1] := scrB_eq (by decide +kernel)
theorem k_bad : (bodyS kB).bad = [(4, 12)] := by decide +kernel
theorem k_line : lineE [117, 112, 32, 120] = 20 := by decide +kernel
theorem k_lineS : lineS [117, 112, 32, 120] = scr0 := by unfold lineS; rw [k_line]; rfl
set_option maxRecDepth 20000 in
set_option maxHeartbeats 8000000 in
theorem known_any (w : World) (he : Ev w) : Calls Tryz.prog 9 #[] w fun e w' => e = .returned (.bool true) ∧ Below w.heap.size w w' := by
  have hp := parseV_any kB w (by decide) he
  have hl := fun W (h : Ev W) => line_any [117, 112, 32, 120] W (by decide) h
  rw [k_out, k_bad] at hp
  rw [k_line, k_lineS] at hl
  go_enter Tryz.func9, Tryz.ntmps9
  go_wp2_with fail
  refine hp.mono ?_
  rintro e w1 ⟨ao, cap, bo, bcap, rfl, hx, hb, hB⟩
  obtain ⟨_, hx'⟩ := hx
  obtain ⟨b1, o1, rfl, hx⟩ := hx' (by decide)
  clear hx'
  obtain ⟨la, lc, hp0, x0, x1, x2, x3, x4, x5⟩ := hx 0 (by decide)
  obtain ⟨la', lc', hp1, y0, y1, y2, y3, y4, y5⟩ := hx 1 (by decide)
  obtain ⟨_, hb'⟩ := hb
  obtain ⟨b2, o2, rfl, hb⟩ := hb' (by decide)
  clear hb'
  obtain ⟨z0, z1⟩ := hb 0 (by decide)
  have u2 : w1.cell? ⟨b1, o1 + 2, none⟩ = some (.int .i64 1500000) := x2
  have u3 : w1.cell? ⟨b1, o1 + 3, none⟩ = some (.int .i64 7) := x3
  have u4 : w1.cell? ⟨b1, o1 + 4, none⟩ = some (.bool true) := x4
  have u5 : w1.cell? ⟨b1, o1 + 5, none⟩ = some (.int .i64 2) := x5
  have v1 : w1.cell? ⟨b1, o1 + 6 + 1, none⟩ = some (.bool true) := y1
  have t0 : w1.cell? ⟨b2, o2, none⟩ = some (.int .i64 4) := z0
  have t1 : w1.cell? ⟨b2, o2 + 1, none⟩ = some (.int .i64 12) := z1
  clear x0 x1 x2 x3 x4 x5 y0 y1 y2 y3 y4 y5 z0 z1 hx hb hp0 hp1 hp
  go_wp2_with fail
  refine (hl _ (he.later hB)).mono ?_
  rintro e w2 ⟨v2, rfl, ho2, hb2⟩
  obtain ⟨la2, lc2, rfl, _⟩ := ho2.fitN
  have B3 := bal hb2 (.cells #[.slice la2 scr0.ls.length lc2, .bool scr0.ov, .int .i64 scr0.n, .int .i64 scr0.t, .bool scr0.has, .int .i64 scr0.kind] 34)
  have u2' := cell_later' u2 B3
  have u3' := cell_later' u3 B3
  have u4' := cell_later' u4 B3
  have u5' := cell_later' u5 B3
  have v1' := cell_later' v1 B3
  have t0' := cell_later' t0 B3
  have t1' := cell_later' t1 B3
  clear u2 u3 u4 u5 v1 t0 t1 hl ho2
  go_wp2
  go_ret
  exact ⟨rfl, Below.chain hB B3⟩
end Go.Proofs.YtcbjhfnlhpallaaGreatDoor
