/- read: the pairs of a text; Parse: for every text. -/
import Derived.Test.YtcbjhfnlhpallaaGreatDoorRead
namespace Go.Proofs.YtcbjhfnlhpallaaGreatDoor
open Go.RowKit

theorem cut_parts (s : Str) (c : UInt8) (r : Str) : (Lib.cut s (c :: r)).1.length ≤ s.length ∧ (Lib.cut s (c :: r)).2.1.length ≤ s.length ∧ ((Lib.cut s (c :: r)).2.2 = true → (Lib.cut s (c :: r)).1.length + (Lib.cut s (c :: r)).2.1.length + r.length + 1 ≤ s.length) := by
  have hge := Lib.index_ge s (c :: r)
  unfold Lib.cut
  by_cases h : 0 ≤ Lib.index s (c :: r)
  · rw [if_pos h]
    have hc : ∃ i : Nat, Lib.index s (c :: r) = i := ⟨(Lib.index s (c :: r)).toNat, by omega⟩
    obtain ⟨i, hi⟩ := hc
    have hr : i + (c :: r).length ≤ s.length := by
      have := Lib.indexB_cases ⟨s.toArray⟩ ⟨(c :: r).toArray⟩
      have e : Lib.indexB ⟨s.toArray⟩ ⟨(c :: r).toArray⟩ = Lib.index s (c :: r) := rfl
      rw [e, hi] at this
      rcases this with h | ⟨k, hk, hl⟩
      · omega
      · rw [ba_size, ba_size] at hl
        omega
    rw [hi]
    simp at hr ⊢
    omega
  · rw [if_neg h]
    simp
theorem trim_len (s : Str) (p : Str) : (Lib.trimPrefix s p).length ≤ s.length := Lib.trimPrefix_le s p
def nextR (s : Str) : Str := Lib.trimPrefix (rdVal (Lib.cut s [61, 34]).2.1).2 [44]
def nextP (s : Str) : Pr := ((Lib.cut s [61, 34]).1, (rdVal (Lib.cut s [61, 34]).2.1).1)
theorem next_len {s : Str} (h : (Lib.cut s [61, 34]).2.2 = true) : (nextR s).length + 2 ≤ s.length := by
  have h1 := (cut_parts s 61 [34]).2.2 h
  have h2 := rdVal_len (Lib.cut s [61, 34]).2.1
  have h3 := trim_len (rdVal (Lib.cut s [61, 34]).2.1).2 [44]
  unfold nextR
  simp at h1
  omega
theorem nextP_len (s : Str) : (nextP s).1.length ≤ s.length ∧ (nextP s).2.length ≤ s.length := by
  have h1 := cut_parts s 61 [34]
  have h2 := rdVal_len (Lib.cut s [61, 34]).2.1
  unfold nextP
  exact ⟨h1.1, by simp; omega⟩
theorem rdPairs_succ (k : Nat) (s : Str) : rdPairs (k + 1) s = if (Lib.cut s [61, 34]).2.2 = true then nextP s :: rdPairs k (nextR s) else [] := rfl
theorem rdPairs_fuel : ∀ (k : Nat) (s : Str), s.length < k → rdPairs k s = rdPairs (s.length + 1) s := by
  intro k
  induction k using Nat.strongRecOn with
  | ind k ih =>
    intro s hk
    cases k with
    | zero => omega
    | succ k =>
      rw [rdPairs_succ, rdPairs_succ]
      by_cases h : (Lib.cut s [61, 34]).2.2 = true
      · rw [if_pos h, if_pos h]
        have hl := next_len h
        rw [ih k (by omega) _ (by omega)]
        rw [ih s.length (by omega) (nextR s) (by omega)]
      · rw [if_neg h, if_neg h]
def rdP (s : Str) : List Pr := rdPairs (s.length + 1) s
theorem rdP_yes {s : Str} (h : (Lib.cut s [61, 34]).2.2 = true) : rdP s = nextP s :: rdP (nextR s) := by
  unfold rdP
  rw [rdPairs_succ, if_pos h, rdPairs_fuel _ _ (by have := next_len h; omega)]
theorem rdP_no {s : Str} (h : (Lib.cut s [61, 34]).2.2 = false) : rdP s = [] := by
  unfold rdP
  rw [rdPairs_succ, h]
  rfl
theorem rdP_len : ∀ (n : Nat) (s : Str), s.length ≤ n → (∀ p ∈ rdP s, p.1.length ≤ s.length ∧ p.2.length ≤ s.length) ∧ (rdP s).length ≤ s.length := by
  intro n
  induction n using Nat.strongRecOn with
  | ind n ih =>
    intro s hs
    cases h : (Lib.cut s [61, 34]).2.2 with
    | false => rw [rdP_no h]; simp
    | true =>
      have hl := next_len h
      obtain ⟨i1, i2⟩ := ih (nextR s).length (by omega) (nextR s) (Nat.le_refl _)
      rw [rdP_yes h]
      refine ⟨fun p hp => ?_, by simp; omega⟩
      rcases List.mem_cons.1 hp with rfl | hp
      · exact nextP_len s
      · have := i1 p hp; omega
def headP (s : Str) : List Pr := if (Lib.cut s [123]).1 = [] then [] else [(nm, (Lib.cut s [123]).1)]
theorem rdAll_eq (s : Str) : rdAll s = headP s ++ rdP (Lib.cut s [123]).2.1 := rfl
theorem rdAll_len (s : Str) : (∀ p ∈ rdAll s, p.1.length ≤ s.length + 8 ∧ p.2.length ≤ s.length) ∧ (rdAll s).length ≤ s.length + 1 := by
  have h1 := cut_parts s 123 []
  obtain ⟨i1, i2⟩ := rdP_len _ (Lib.cut s [123]).2.1 (Nat.le_refl _)
  rw [rdAll_eq]
  unfold headP
  constructor
  · intro p hp
    rcases List.mem_append.1 hp with hp | hp
    · split at hp
      · cases hp
      · simp at hp
        subst hp
        simp [nm]
        omega
    · have := i1 p hp; omega
  · rw [List.length_append]
    have : (if (Lib.cut s [123]).1 = [] then ([] : List Pr) else [(nm, (Lib.cut s [123]).1)]).length ≤ 1 := by split <;> simp
    omega
theorem cutS_any (s sep : Str) (w : World) (hs : s.length ≤ 1000000) (hm : Mx w) : Calls Tryz.prog 69 #[tx s, tx sep] w fun e w' => e = .returned (.tuple #[tx (Lib.cut s sep).1, tx (Lib.cut s sep).2.1, .bool (Lib.cut s sep).2.2]) ∧ Below w.heap.size w w' := by
  obtain ⟨m, hm⟩ := hm
  refine (Tryz.strings_Cut ⟨s.toArray⟩ ⟨sep.toArray⟩ m w (by rw [ba_size]; omega) hm).mono ?_
  rintro e w' ⟨rfl, k, rfl⟩
  exact ⟨rfl, below_drewN (Below.refl _ _) k⟩
theorem trim_any (s p : Str) (w : World) : Calls Tryz.prog 103 #[tx s, tx p] w fun e w' => e = .returned (tx (Lib.trimPrefix s p)) ∧ w = w' := by
  refine (Tryz.strings_TrimPrefix ⟨s.toArray⟩ ⟨p.toArray⟩ w).mono ?_
  rintro e w' ⟨rfl, rfl⟩
  exact ⟨rfl, rfl⟩
theorem Box.put1 {w : World} {b : Nat} {p : Pr} (h : Box w b p) (v : Str) : Box (w.setCell ⟨b, 1, none⟩ (tx v)) b (p.1, v) := by
  obtain ⟨c0, c1, f0, f1⟩ := h
  constructor
  · rw [World.cell?_setCell_other _ _ _ _ (by intro e; cases e)]; exact c0
  · exact World.cell?_setCell_same' _ _ _ (by rw [c1]; rfl)
  · simpa using f0
  · simpa using f1
def strLen : Value → Nat
  | .string b => b.size
  | _ => 0
theorem strLen_tx (s : Str) : strLen (tx s) = s.length := ba_size s

set_option maxRecDepth 20000 in
set_option maxHeartbeats 4000000 in
theorem read_any (s : Str) (w : World) (hs : s.length ≤ 100000) (hm : Mx w) : Calls Tryz.prog 64 #[tx s] w fun e w' => ∃ v, e = .returned v ∧ Own w' w.heap.size v (rdAll s) ∧ Below w.heap.size w w' := by
  obtain ⟨i0, hi, hz0, hz1, hz2⟩ := info_parts35
  have hc := cutS_any s [123] w (by omega) hm
  have hcl1 := (cut_parts s 123 []).2.1
  have HA : Hid (rdAll s = headP s ++ rdP (Lib.cut s [123]).2.1) := rdAll_eq s
  have HH : Hid (headP s = if (Lib.cut s [123]).1 = [] then [] else [(nm, (Lib.cut s [123]).1)]) := rfl
  generalize rdAll s = R at *
  generalize headP s = hd at *
  generalize Lib.cut s [123] = C at *
  obtain ⟨ms, rest, fd⟩ := C
  dsimp only at *
  by_cases hme : ms = []
  · have hme' : (ms == []) = true := by simpa using hme
    have HD : Hid (hd = []) := by show _ = _; rw [HH.out, if_pos hme]
    clear hme HH
    go_enter Tryz.func64, Tryz.ntmps64
    go_wp2_with fail
    refine hc.mono ?_
    rintro e w1 ⟨rfl, hb1⟩
    go_wp2_with fail
    go_loopw [4, 6] (fun t u wr => ∃ (r : Str) (v : Value) (l : List Pr), r.length ≤ rest.length ∧ l.length + r.length ≤ rest.length + 1 ∧ t = tx r ∧ v = u ∧ Own wr w.heap.size v l ∧ Hid (R = l ++ rdP r) ∧ Below w.heap.size w wr) (fun t _ _ => strLen t)
    case atStart => exact ⟨rest, _, [], by omega, by simp, rfl, rfl, World.ownsRow_made w1 #[] 0 hb1.size (Nat.zero_le _) (by simp), by show _ = _; rw [HA.out, HD.out], bal hb1 _⟩
    case round =>
      obtain ⟨r, v, l, hr, hlr, rfl, rfl, ho, HR, hb⟩ := hrel
      have hc2 := cutS_any r [61, 34] wr (by omega) (hm.later hb)
      have hcp := (cut_parts r 61 [34]).2.1
      cases hf : (Lib.cut r [61, 34]).2.2 with
      | false =>
        have HQ : Hid (R = l) := by show _ = _; rw [HR.out, rdP_no hf, List.append_nil]
        rw [hf] at hc2
        clear HR hf hcp
        generalize (Lib.cut r [61, 34]).1 = a at *
        generalize (Lib.cut r [61, 34]).2.1 = b at *
        go_wp2_with fail
        refine hc2.mono ?_
        rintro e w2 ⟨rfl, hb2⟩
        go_wp2
        go_ret
        exact ⟨_, rfl, by rw [HQ.out]; exact ho.later hb2, hb.trans (hb2.mono hb.size)⟩
      | true =>
        have hnl := next_len hf
        have HQ : Hid (R = (l ++ [nextP r]) ++ rdP (nextR r)) := by show _ = _; rw [HR.out, rdP_yes hf]; simp
        have HP : Hid (nextP r = ((Lib.cut r [61, 34]).1, (rdVal (Lib.cut r [61, 34]).2.1).1)) := rfl
        have HN : Hid (nextR r = Lib.trimPrefix (rdVal (Lib.cut r [61, 34]).2.1).2 [44]) := rfl
        rw [hf] at hc2
        clear HR hf
        rw [HN.out] at hnl
        rw [HP.out, HN.out] at HQ
        clear HP HN
        generalize (Lib.cut r [61, 34]).1 = a at *
        generalize (Lib.cut r [61, 34]).2.1 = b at *
        have hrv := fun W => readValue_any b W (by omega)
        generalize rdVal b = D at *
        obtain ⟨x, y⟩ := D
        dsimp only at *
        have htr := trim_any y [44]
        generalize Lib.trimPrefix y [44] = z at *
        go_wp2_with fail
        refine hc2.mono ?_
        rintro e w2 ⟨rfl, hb2⟩
        have hb02 : Below w.heap.size w w2 := hb.trans (hb2.mono hb.size)
        have hbx := Box.new w2 (a, [])
        have hbn := bal (Below.refl _ w2) (.cells #[tx a, tx []] 58)
        go_wp2_with fail
        refine (hrv _).mono ?_
        rintro e w4 ⟨rfl, hb4⟩
        have hbx4 := hbx.later hb4
        have hbx5 := hbx4.put1 x
        have B25 := (Below.chain hbn hb4).setCell (p := ⟨w2.heap.size, 1, none⟩) (Nat.le_refl _) (tx x)
        have ho5 := (ho.later hb2).later B25
        have hb05 := hb02.trans (B25.mono hb02.size)
        obtain ⟨c0, c1, f0, f1⟩ := hbx4
        obtain ⟨d0, d1, _, _⟩ := hbx5
        have ho6 := ho5.later (bal (Below.refl _ _) (.cells #[tx a, tx x] 58))
        have hbo := bal hb05 (.cells #[tx a, tx x] 58)
        have hbx6 := Box.new (w4.setCell ⟨w2.heap.size, 1, none⟩ (tx x)) (a, x)
        go_wp2_with (first | (at_builtin; go_must (refine wpList_append_own _ rfl _ _ 30 rfl w.heap.size 58 i0 (.agg #[tx [], tx []]) 2 32 Tryz.underlying30 hi hz0 hz1 hz2 zero35 (by decide) _ _ _ rfl ho6 ⟨(w4.setCell ⟨w2.heap.size, 1, none⟩ (tx x)).heap.size, 0, none⟩ 1 1 (cellsP [(a, x)]) ?hx rfl hbx6.cells (cellsP_one _) ?h63 ?hby hbo.size ?_)))
        case hx => simp [Act.eval]
        case h63 => unfold maxLen; omega
        case hby => omega
        intro v' w7 ho7 hg7 _
        go_wp2_with (go_at_call 103; refine (htr _).mono ?_; rintro e w' ⟨rfl, rfl⟩)
        go_roundw
        case rel => exact ⟨z, _, l ++ [(a, x)], by omega, by simp; omega, rfl, rfl, Own.snoc ho7, HQ, hbo.grown hg7 hbo.size (fun k hk => (World.ownsRow.lt ho6 k hk).1)⟩
        case measure => rw [strLen_tx, strLen_tx]; omega
  · have hme' : (ms == []) = false := by simpa using hme
    have HD : Hid (hd = [(nm, ms)]) := by show _ = _; rw [HH.out, if_neg hme]
    clear hme HH
    go_enter Tryz.func64, Tryz.ntmps64
    go_wp2_with fail
    refine hc.mono ?_
    rintro e w1 ⟨rfl, hb1⟩
    have ho1 : Own (w1.alloc (.cells #[] 58)) w.heap.size (.slice (some ⟨w1.heap.size, 0, none⟩) 0 0) [] := World.ownsRow_made w1 #[] 0 hb1.size (Nat.zero_le _) (by simp)
    have ho2 := ho1.later (bal (Below.refl _ _) (.cells #[tx nm, tx ms] 58))
    have hbo := bal (bal hb1 (.cells #[] 58)) (.cells #[tx nm, tx ms] 58)
    have hbx := Box.new (w1.alloc (.cells #[] 58)) (nm, ms)
    go_wp2_with (at_builtin; go_must (refine wpList_append_own _ rfl _ _ 30 rfl w.heap.size 58 i0 (.agg #[tx [], tx []]) 2 32 Tryz.underlying30 hi hz0 hz1 hz2 zero35 (by decide) _ _ _ rfl ho2 ⟨(w1.alloc (.cells #[] 58)).heap.size, 0, none⟩ 1 1 (cellsP [(nm, ms)]) ?hx rfl hbx.cells (cellsP_one _) ?h63 ?hby hbo.size ?_))
    case hx => simp [Act.eval]
    case h63 => unfold maxLen; simp
    case hby => simp
    intro v1 w2 ho3 hg3 _
    have hb3 := hbo.grown hg3 hbo.size (fun k hk => (World.ownsRow.lt ho2 k hk).1)
    have ho4 : Own w2 w.heap.size v1 ([] ++ [(nm, ms)]) := Own.snoc ho3
    clear ho1 ho2 hbo hbx ho3 hg3 hb1
    go_wp2_with fail
    go_loopw [4, 6] (fun t u wr => ∃ (r : Str) (v : Value) (l : List Pr), r.length ≤ rest.length ∧ l.length + r.length ≤ rest.length + 1 ∧ t = tx r ∧ v = u ∧ Own wr w.heap.size v l ∧ Hid (R = l ++ rdP r) ∧ Below w.heap.size w wr) (fun t _ _ => strLen t)
    case atStart => exact ⟨rest, _, [(nm, ms)], by omega, by simp; omega, rfl, rfl, ho4, by show _ = _; rw [HA.out, HD.out], hb3⟩
    case round =>
      obtain ⟨r, v, l, hr, hlr, rfl, rfl, ho, HR, hb⟩ := hrel
      have hc2 := cutS_any r [61, 34] wr (by omega) (hm.later hb)
      have hcp := (cut_parts r 61 [34]).2.1
      cases hf : (Lib.cut r [61, 34]).2.2 with
      | false =>
        have HQ : Hid (R = l) := by show _ = _; rw [HR.out, rdP_no hf, List.append_nil]
        rw [hf] at hc2
        clear HR hf hcp
        generalize (Lib.cut r [61, 34]).1 = a at *
        generalize (Lib.cut r [61, 34]).2.1 = b at *
        go_wp2_with fail
        refine hc2.mono ?_
        rintro e w2 ⟨rfl, hb2⟩
        go_wp2
        go_ret
        exact ⟨_, rfl, by rw [HQ.out]; exact ho.later hb2, hb.trans (hb2.mono hb.size)⟩
      | true =>
        have hnl := next_len hf
        have HQ : Hid (R = (l ++ [nextP r]) ++ rdP (nextR r)) := by show _ = _; rw [HR.out, rdP_yes hf]; simp
        have HP : Hid (nextP r = ((Lib.cut r [61, 34]).1, (rdVal (Lib.cut r [61, 34]).2.1).1)) := rfl
        have HN : Hid (nextR r = Lib.trimPrefix (rdVal (Lib.cut r [61, 34]).2.1).2 [44]) := rfl
        rw [hf] at hc2
        clear HR hf
        rw [HN.out] at hnl
        rw [HP.out, HN.out] at HQ
        clear HP HN
        generalize (Lib.cut r [61, 34]).1 = a at *
        generalize (Lib.cut r [61, 34]).2.1 = b at *
        have hrv := fun W => readValue_any b W (by omega)
        generalize rdVal b = D at *
        obtain ⟨x, y⟩ := D
        dsimp only at *
        have htr := trim_any y [44]
        generalize Lib.trimPrefix y [44] = z at *
        go_wp2_with fail
        refine hc2.mono ?_
        rintro e w2 ⟨rfl, hb2⟩
        have hb02 : Below w.heap.size w w2 := hb.trans (hb2.mono hb.size)
        have hbx := Box.new w2 (a, [])
        have hbn := bal (Below.refl _ w2) (.cells #[tx a, tx []] 58)
        go_wp2_with fail
        refine (hrv _).mono ?_
        rintro e w4 ⟨rfl, hb4⟩
        have hbx4 := hbx.later hb4
        have hbx5 := hbx4.put1 x
        have B25 := (Below.chain hbn hb4).setCell (p := ⟨w2.heap.size, 1, none⟩) (Nat.le_refl _) (tx x)
        have ho5 := (ho.later hb2).later B25
        have hb05 := hb02.trans (B25.mono hb02.size)
        obtain ⟨c0, c1, f0, f1⟩ := hbx4
        obtain ⟨d0, d1, _, _⟩ := hbx5
        have ho6 := ho5.later (bal (Below.refl _ _) (.cells #[tx a, tx x] 58))
        have hbo := bal hb05 (.cells #[tx a, tx x] 58)
        have hbx6 := Box.new (w4.setCell ⟨w2.heap.size, 1, none⟩ (tx x)) (a, x)
        go_wp2_with (first | (at_builtin; go_must (refine wpList_append_own _ rfl _ _ 30 rfl w.heap.size 58 i0 (.agg #[tx [], tx []]) 2 32 Tryz.underlying30 hi hz0 hz1 hz2 zero35 (by decide) _ _ _ rfl ho6 ⟨(w4.setCell ⟨w2.heap.size, 1, none⟩ (tx x)).heap.size, 0, none⟩ 1 1 (cellsP [(a, x)]) ?hx rfl hbx6.cells (cellsP_one _) ?h63 ?hby hbo.size ?_)))
        case hx => simp [Act.eval]
        case h63 => unfold maxLen; omega
        case hby => omega
        intro v' w7 ho7 hg7 _
        go_wp2_with (go_at_call 103; refine (htr _).mono ?_; rintro e w' ⟨rfl, rfl⟩)
        go_roundw
        case rel => exact ⟨z, _, l ++ [(a, x)], by omega, by simp; omega, rfl, rfl, Own.snoc ho7, HQ, hbo.grown hg7 hbo.size (fun k hk => (World.ownsRow.lt ho6 k hk).1)⟩
        case measure => rw [strLen_tx, strLen_tx]; omega
end Go.Proofs.YtcbjhfnlhpallaaGreatDoor
