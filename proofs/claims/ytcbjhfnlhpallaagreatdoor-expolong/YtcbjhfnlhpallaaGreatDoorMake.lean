/- Make: for every slice of pairs. -/
import Derived.Test.YtcbjhfnlhpallaaGreatDoorBaseA
namespace Go.Proofs.YtcbjhfnlhpallaaGreatDoor
open Go.RowKit

theorem Own.base {w : World} {b b' : Nat} {v : Value} {l : List Pr} (h : Own w b' v l) (hb : b ≤ b') : Own w b v l := by
  refine ⟨h.1, ?_⟩
  rcases h.2 with h0 | ⟨g, cap, cur, hv, hg0, r⟩
  · exact Or.inl h0
  · exact Or.inr ⟨g, cap, cur, hv, Nat.le_trans hb hg0, r⟩
theorem Own.none (w : World) (b : Nat) : Own w b (.slice none 0 0) [] := ⟨rfl, Or.inl ⟨rfl, rfl⟩⟩
theorem Fit.perm {l m : List Pr} (h : Fit l) (hp : m.Perm l) : Fit m := fun p hm => h p (hp.mem_iff.1 hm)
theorem Fit.filter {l : List Pr} (h : Fit l) (f : Pr → Bool) : Fit (l.filter f) := fun p hm => h p (List.mem_filter.1 hm).1
theorem adj_twice {l m : List Pr} (hp : m.Perm l) {j : Nat} (hj : j + 1 < m.length) (h : (m.getD j ([], [])).1 = (m.getD (j + 1) ([], [])).1) : twice l = true := by
  unfold twice
  rw [Bool.not_eq_true', decide_eq_false_iff_not]
  intro hn
  have hn' : (m.map (·.1)).Nodup := (hp.map (·.1)).nodup_iff.2 hn
  rw [getD_at (show j < m.length by omega), getD_at hj] at h
  rw [List.Nodup, List.pairwise_map, List.pairwise_iff_getElem] at hn'
  exact hn' j (j + 1) (by omega) hj (by omega) h
theorem adj_done {l m : List Pr} (hp : m.Perm l) (hs : sortedN m) (h : ∀ i, i + 1 < m.length → (m.getD i ([], [])).1 ≠ (m.getD (i + 1) ([], [])).1) : twice l = false ∧ srt (full l) = full m := by
  have hr : rises m := rises_of fun i h0 hi => by
    obtain ⟨k, rfl⟩ : ∃ k, i = k + 1 := ⟨i - 1, by omega⟩
    have h1 := h k hi
    have h2 : ¬ (m.getD (k + 1) ([], [])).1 < (m.getD k ([], [])).1 := by
      rw [getD_at hi, getD_at (show k < m.length by omega)]
      unfold sortedN at hs
      rw [List.pairwise_iff_getElem] at hs
      exact hs k (k + 1) (by omega) hi (by omega)
    show (m.getD k ([], [])).1 < _
    by_cases h3 : (m.getD k ([], [])).1 < (m.getD (k + 1) ([], [])).1
    · exact h3
    · exact absurd (str_eq h3 h2) h1
  have hn : (l.map (·.1)).Nodup := (hp.map (·.1)).nodup_iff.1 (rises_nodup hr)
  refine ⟨by unfold twice; simpa using hn, ?_⟩
  exact srt_of (hp.filter _) (rises_filter hr _)
theorem hasValue_any (p : Pr) (w : World) : Calls Tryz.prog 101 #[.agg #[tx p.1, tx p.2]] w fun e w' => e = .returned (.bool (!p.2.isEmpty)) ∧ Below w.heap.size w w' := by
  obtain ⟨a, b⟩ := p
  cases b with
  | nil =>
    go_enter Tryz.func101, Tryz.ntmps101
    go_wp2
    go_ret
    exact ⟨rfl, bal (Below.refl _ _) _⟩
  | cons c r =>
    go_enter Tryz.func101, Tryz.ntmps101
    go_wp2
    go_ret
    exact ⟨rfl, bal (Below.refl _ _) _⟩
theorem enters42 : ∀ args w, (callFunc 101 args).run Tryz.prog w = .ok (.enter 101 args) w := enters_of Tryz.func101 (by kernel_rfl) rfl

set_option maxHeartbeats 2000000 in
theorem make_any (xa : Option Addr) (n c : Nat) (l : List Pr) (w : World) (hn : n ≤ 1000000) (hf : Fit l) (hx : Ps w xa n l) :
    Calls Tryz.prog 63 #[.slice xa n c] w fun e w' => ∃ v, e = .returned (.tuple #[v, .int .i64 (makeE l)]) ∧ Own w' w.heap.size v (makeL l) ∧ Below w.heap.size w w' := by
  have HL : Hid (l.length = n) := hx.1
  go_enter Tryz.func63, Tryz.ntmps63
  go_wp2_with fail
  refine (clone_any xa n c l w hn hx).mono ?_
  rintro e w1 ⟨v, rfl, ho1, hb1⟩
  have hs := sort_any v w.heap.size l w w1 ho1 (by rw [HL.out]; exact hn) hb1 (Nat.le_refl _)
  obtain ⟨ao, cap, rfl, _, _⟩ := ho1.slice
  go_wp2_with fail
  refine hs.mono ?_
  rintro e w2 ⟨rfl, ao', cap', m, he, hps, hp, hsrt, hb2⟩
  cases he
  rw [HL.out] at hps
  rw [HL.out]
  have HM : Hid (m.length = n) := hps.1
  have hps' := hps
  obtain ⟨_, hcell⟩ := hps'
  have HP : Hid (m.Perm l) := hp
  have HS : Hid (sortedN m) := hsrt
  clear hs hx hp hsrt
  go_wp2_with fail
  go_loopw [5] (fun i wr => ∃ j k : Nat, (j < n ∨ n = 0 ∧ j = 0) ∧ i = .int .i64 (j + 1 : Nat) ∧ Hid (∀ i, i < j → (m.getD i ([], [])).1 ≠ (m.getD (i + 1) ([], [])).1) ∧ wr = w2.drewN k) (fun i _ => n + 1 - (intOf i).toNat)
  case atStart => exact ⟨0, 0, by omega, rfl, fun i h => by omega, rfl⟩
  case round =>
    obtain ⟨j, k, hj, rfl, ht, rfl⟩ := hrel
    by_cases hlt : j + 1 < n
    · obtain ⟨b1, o1, rfl, h1⟩ := hcell (by omega)
      obtain ⟨c0, _⟩ := h1 j (by omega)
      obtain ⟨c1, _⟩ := h1 (j + 1) hlt
      have HT : Hid ((m.getD j ([], [])).1 = (m.getD (j + 1) ([], [])).1 → twice l = true) := adj_twice HP.out (by rw [HM.out]; exact hlt)
      have HN : Hid ((m.getD j ([], [])).1 ≠ (m.getD (j + 1) ([], [])).1 → ∀ i, i < j + 1 → (m.getD i ([], [])).1 ≠ (m.getD (i + 1) ([], [])).1) := fun h i hi => by
        by_cases e : i = j
        · rw [e]; exact h
        · exact ht.out i (by omega)
      clear h1 hcell
      generalize (m.getD j ([], [])).1 = p at *
      generalize (m.getD (j + 1) ([], [])).1 = q at *
      by_cases hpq : p = q
      · have HE : Hid (makeE l = 31) := by show _ = _; unfold makeE; rw [if_pos (HT.out hpq)]
        have HLL : Hid (makeL l = []) := by show _ = _; unfold makeL; rw [HE.out]; rfl
        have hpq' : (p == q) = true := by simpa using hpq
        clear HT HN hpq
        go_wp2
        go_quiet (fail)
        go_wp2
        go_ret2
        exact ⟨_, by rw [HE.out]; rfl, by rw [HLL.out]; exact Own.none _ _, below_drewN (below_drewN hb2 _) _⟩
      · have HR : Hid (∀ i, i < j + 1 → (m.getD i ([], [])).1 ≠ (m.getD (i + 1) ([], [])).1) := HN.out hpq
        have hpq' : (p == q) = false := by simpa using hpq
        clear HT HN hpq
        go_wp2
        go_quiet (fail)
        go_wp2
        go_roundw
        case rel => exact ⟨j + 1, _, by omega, by go_num, HR, rfl⟩
        case measure => simp [intOf]; omega
    · have HD := adj_done HP.out HS.out (fun i hi => ht.out i (by rw [HM.out] at hi; omega))
      have HD1 : Hid (twice l = false) := HD.1
      have HD2 : Hid (srt (full l) = full m) := HD.2
      clear HD ht
      have hbk : Below w2.heap.size w2 (w2.drewN k) := below_drewN (Below.refl _ _) _
      have hon := only_any ao n cap m 101 #[] (fun p => !p.2.isEmpty) (w2.drewN k) hn (hps.later hbk) enters42 (fun p W _ => hasValue_any p W)
      go_wp2_with fail
      refine hon.mono ?_
      rintro e w3 ⟨v3, rfl, ho3, hb3⟩
      have ho3' : Own w3 (w2.drewN k).heap.size v3 (full m) := ho3
      obtain ⟨ao3, cap3, rfl, hps3, _⟩ := ho3'.slice
      have hle : (full m).length ≤ 1000000 := Nat.le_trans (List.length_filter_le _ _) (by rw [HM.out]; exact hn)
      have his := is_any ao3 (full m).length cap3 (full m) w3 (by omega) (Fit.filter (Fit.perm hf HP.out) _) hps3
      have hb23 : Below w.heap.size w w3 := (below_drewN hb2 k).trans (hb3.mono (below_drewN hb2 k).size)
      have ho4 : Own w3 w.heap.size (.slice ao3 (full m).length cap3) (full m) := ho3'.base (below_drewN hb2 k).size
      clear hon ho3 ho3'
      cases hi : fIs (full m) with
      | true =>
        rw [hi] at his
        have HE : Hid (makeE l = 0) := by show _ = _; unfold makeE; rw [HD1.out, HD2.out, if_neg (by simp), if_pos hi]
        have HLL : Hid (makeL l = full m) := by show _ = _; unfold makeL; rw [HE.out, if_pos rfl, HD2.out]
        clear hi
        go_wp2_with fail
        refine his.mono ?_
        rintro e w4 ⟨rfl, hb4⟩
        go_wp2
        go_ret2
        exact ⟨_, by rw [HE.out]; rfl, by rw [HLL.out]; exact ho4.later hb4, hb23.trans (hb4.mono hb23.size)⟩
      | false =>
        rw [hi] at his
        have HE : Hid (makeE l = 30) := by show _ = _; unfold makeE; rw [HD1.out, HD2.out, if_neg (by simp), if_neg (by rw [hi]; simp)]
        have HLL : Hid (makeL l = []) := by show _ = _; unfold makeL; rw [HE.out]; rfl
        clear hi
        go_wp2_with fail
        refine his.mono ?_
        rintro e w4 ⟨rfl, hb4⟩
        go_wp2
        go_ret2
        exact ⟨_, by rw [HE.out]; rfl, by rw [HLL.out]; exact Own.none _ _, hb23.trans (hb4.mono hb23.size)⟩
end Go.Proofs.YtcbjhfnlhpallaaGreatDoor
