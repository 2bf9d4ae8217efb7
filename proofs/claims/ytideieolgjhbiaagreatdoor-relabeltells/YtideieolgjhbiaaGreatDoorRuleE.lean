/- Print, few, known: what every law asks first. -/
import Derived.Test.YtideieolgjhbiaaGreatDoorRuleD
namespace Go.Proofs.YtideieolgjhbiaaGreatDoor
open Go.RowKit

set_option maxHeartbeats 1000000 in
theorem printR_any (r : Rl) (w : World) (hf : FitR r) (hm : Mx w) : Calls Tryz.prog 14 #[rv r] w fun e w' => e = .returned (tx (fPrintR r)) ∧ Below w.heap.size w w' := by
  have hq := fun W => isR_any r W hf
  have hro := ruleOf_any r
  have hli := fun (h : Short r) W (hW : Mx W) => line_any r W h hW
  have hsh := @rule_short r
  have hb0 := bal (Below.refl _ w) (.cells #[.int .i64 r.act, tx r.frm.name, .int .i64 r.frm.kind, tx r.frm.text, tx r.tgt, tx r.txt] 35)
  have hc0 : ∀ k v, (#[.int .i64 r.act, tx r.frm.name, .int .i64 r.frm.kind, tx r.frm.text, tx r.tgt, tx r.txt] : Array Value)[k]? = some v → (w.alloc (.cells #[.int .i64 r.act, tx r.frm.name, .int .i64 r.frm.kind, tx r.frm.text, tx r.tgt, tx r.txt] 35)).cell? ⟨w.heap.size, k, none⟩ = some v := fun k v h => (World.cell?_alloc_new w _ _ k).trans h
  unfold fPrintR
  cases hr : fRule r with
  | false =>
    rw [hr] at hq
    clear hli hsh hro hr hf hc0
    obtain ⟨act, ⟨nn, kk, tt⟩, tgt, txt⟩ := r
    go_enter Tryz.func14, Tryz.ntmps14
    go_wp2_with fail
    generalize w.alloc (.cells _ 35) = w0 at *
    refine (hq _).mono ?_
    rintro e w1 ⟨rfl, hb1⟩
    go_wp2_with fail
    go_ret
    exact ⟨by simp, Below.chain hb0 hb1⟩
  | true =>
    rw [hr] at hq
    have hl := hli (hsh hr)
    clear hli hsh hr hf
    rw [if_pos rfl]
    generalize lineT r = lt at *
    obtain ⟨act, ⟨nn, kk, tt⟩, tgt, txt⟩ := r
    have c0 := hc0 0 _ rfl
    have c1 := hc0 1 _ rfl
    have c2 := hc0 2 _ rfl
    have c3 := hc0 3 _ rfl
    have c4 := hc0 4 _ rfl
    have c5 := hc0 5 _ rfl
    dsimp only at c0 c1 c2 c3 c4 c5
    clear hc0
    go_enter Tryz.func14, Tryz.ntmps14
    go_wp2_with fail
    generalize w.alloc (.cells _ 35) = w0 at *
    refine (hq _).mono ?_
    rintro e w1 ⟨rfl, hb1⟩
    have e0 := cell_later c0 hb1
    have e1 := cell_later c1 hb1
    have e2 := cell_later c2 hb1
    have e3 := cell_later c3 hb1
    have e4 := cell_later c4 hb1
    have e5 := cell_later c5 hb1
    have B1 := Below.chain hb0 hb1
    go_wp2_with fail
    refine (hro _).mono ?_
    rintro e w2 ⟨rfl, hb2⟩
    have B2 := Below.chain B1 hb2
    go_wp2_with fail
    refine (hl _ (hm.later B2)).mono ?_
    rintro e w3 ⟨rfl, hb3⟩
    go_wp2_with fail
    go_ret
    exact ⟨rfl, Below.chain B2 hb3⟩

/-! ### few -/
def thinR (r : Rl) : Bool := decide (r.txt.length ≤ 100) && decide (r.frm.text.length ≤ 100)
def fewB (l : List Pr) (rs : List Rl) : Bool := rs.all thinR && (decide (l.length ≤ 12) && decide (rs.length ≤ 12))
theorem thin_no {rs : List Rl} {j : Nat} (hj : j < rs.length) (h : thinR (rs.getD j rl0) = false) : rs.all thinR = false := by
  rw [Bool.eq_false_iff]
  intro ha
  have := List.all_eq_true.1 ha _ (List.getElem_mem hj)
  rw [getR_at hj] at h
  rw [h] at this
  cases this
theorem thin_step {rs : List Rl} {j : Nat} (hj : j < rs.length) (h : (rs.take j).all thinR = true) (hr : thinR (rs.getD j rl0) = true) : (rs.take (j + 1)).all thinR = true := by
  rw [List.take_succ_eq_append_getElem hj, List.all_append, h]
  rw [getR_at hj] at hr
  simp [hr]
set_option maxRecDepth 100000 in
set_option maxHeartbeats 2000000 in
theorem few_any (xa : Option Addr) (n c : Nat) (l : List Pr) (ya : Option Addr) (m d : Nat) (rs : List Rl) (w : World) (hn : n ≤ 9223372036854775807) (hmm : m ≤ 9223372036854775807) (hfr : FitRs rs) (hx : l.length = n) (hy : Rs w ya m rs) :
    Calls Tryz.prog 9 #[.slice xa n c, .slice ya m d] w fun e w' => e = .returned (.bool (fewB l rs)) ∧ w = w' := by
  obtain ⟨hlen, hcell⟩ := hy
  have HL : Hid (rs.length = m) := hlen
  have HX : Hid (l.length = n) := hx
  have HNo : Hid _ := @thin_no rs
  have HSt : Hid _ := @thin_step rs
  have HT : Hid (∀ j, thinR (rs.getD j rl0) = (decide ((rs.getD j rl0).txt.length ≤ 100) && decide ((rs.getD j rl0).frm.text.length ≤ 100))) := fun _ => rfl
  clear hlen hx
  go_enter Tryz.func9, Tryz.ntmps9
  go_wp2_with fail
  go_loop [5] (fun i => ∃ j : Nat, j ≤ m ∧ i = .int .i64 j ∧ Hid ((rs.take j).all thinR = true)) (fun i => m - (intOf i).toNat)
  case atStart => exact ⟨0, by omega, rfl, rfl⟩
  case round =>
    obtain ⟨j, hj, rfl, ho⟩ := hrel
    by_cases hlt : j < m
    · obtain ⟨b, off, rfl, hc⟩ := hcell (by omega)
      obtain ⟨_, _, _, k3, _, k5⟩ := hc j hlt
      have hlt' : j < rs.length := by rw [HL.out]; exact hlt
      have HN : Hid _ := HNo.out hlt'
      have HS : Hid _ := HSt.out hlt' ho.out
      have HTj : Hid _ := HT.out j
      have hft := hfr.at j
      have hf1 := hft.2.2.2
      have hf2 := hft.2.1
      unfold Big at hf1 hf2
      clear hc hcell hlt' HNo HSt HT ho hft
      generalize rs.getD j rl0 = r at *
      obtain ⟨act, ⟨nn, kk, tt⟩, tgt, txt⟩ := r
      dsimp only at *
      by_cases h1 : txt.length ≤ 100
      · have t1 : ¬ (100 : Int) < txt.length := by omega
        by_cases h2 : tt.length ≤ 100
        · have t2 : ¬ (100 : Int) < tt.length := by omega
          have HR : Hid _ := HS.out (by rw [HTj.out, decide_eq_true h1, decide_eq_true h2]; rfl)
          clear HN HS HTj h1 h2
          go_wp2_with fail
          go_round
          case rel => exact ⟨j + 1, by omega, by go_num, HR⟩
          case measure => simp [intOf]; omega
        · have t2 : (100 : Int) < tt.length := by omega
          have HR : Hid (fewB l rs = false) := by show _ = _; unfold fewB; rw [HN.out (by rw [HTj.out, decide_eq_false h2, Bool.and_false])]; rfl
          clear HN HS HTj h1 h2
          go_wp2_with fail
          go_ret
          exact ⟨by rw [HR.out]; rfl, rfl⟩
      · have t1 : (100 : Int) < txt.length := by omega
        have HR : Hid (fewB l rs = false) := by show _ = _; unfold fewB; rw [HN.out (by rw [HTj.out, decide_eq_false h1, Bool.false_and])]; rfl
        clear HN HS HTj h1
        go_wp2_with fail
        go_ret
        exact ⟨by rw [HR.out]; rfl, rfl⟩
    · have HR : Hid (fewB l rs = (decide (n ≤ 12) && decide (m ≤ 12))) := by
        show _ = _
        have := ho.out
        rw [List.take_of_length_le (by rw [HL.out]; omega)] at this
        unfold fewB
        rw [this, HL.out, HX.out, Bool.true_and]
      clear ho HNo HSt HT
      by_cases h1 : n ≤ 12
      · have t1 : (n : Int) ≤ 12 := by omega
        by_cases h2 : m ≤ 12
        · have t2 : (m : Int) ≤ 12 := by omega
          go_wp2_with fail
          go_ret
          exact ⟨by rw [HR.out, decide_eq_true h1, decide_eq_true h2]; rfl, rfl⟩
        · have t2 : ¬ (m : Int) ≤ 12 := by omega
          go_wp2_with fail
          go_ret
          exact ⟨by rw [HR.out, decide_eq_false h2, Bool.and_false]; rfl, rfl⟩
      · have t1 : ¬ (n : Int) ≤ 12 := by omega
        go_wp2_with fail
        go_ret
        exact ⟨by rw [HR.out, decide_eq_false h1]; rfl, rfl⟩
end Go.Proofs.YtideieolgjhbiaaGreatDoor
