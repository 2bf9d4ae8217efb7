/- Apply: for every set and rules. -/
import Derived.Test.YtideieolgjhbiaaGreatDoorRuleC
namespace Go.Proofs.YtideieolgjhbiaaGreatDoor
open Go.RowKit

/-- A slice of rules. -/
def Rs (w : World) (ao : Option Addr) (n : Nat) (l : List Rl) : Prop :=
  l.length = n ∧ (0 < n → ∃ b off, ao = some ⟨b, off, none⟩ ∧ ∀ j, j < n → w.cell? ⟨b, off + j * 6, none⟩ = some (.int .i64 (l.getD j rl0).act) ∧ w.cell? ⟨b, off + j * 6 + 1, none⟩ = some (tx (l.getD j rl0).frm.name) ∧ w.cell? ⟨b, off + j * 6 + 2, none⟩ = some (.int .i64 (l.getD j rl0).frm.kind) ∧ w.cell? ⟨b, off + j * 6 + 3, none⟩ = some (tx (l.getD j rl0).frm.text) ∧ w.cell? ⟨b, off + j * 6 + 4, none⟩ = some (tx (l.getD j rl0).tgt) ∧ w.cell? ⟨b, off + j * 6 + 5, none⟩ = some (tx (l.getD j rl0).txt))
theorem cell_later {w w' : World} {p : Addr} {v : Value} (h : w.cell? p = some v) (hb : Below w.heap.size w w') : w'.cell? p = some v := (hb.cell (p := p) (World.block_lt_of_cell? _ _ h)).trans h
theorem Rs.later {w w' : World} {ao : Option Addr} {n : Nat} {l : List Rl} (h : Rs w ao n l) (hb : Below w.heap.size w w') : Rs w' ao n l := by
  obtain ⟨h1, h4⟩ := h
  refine ⟨h1, fun hp => ?_⟩
  obtain ⟨b, off, e, hc⟩ := h4 hp
  exact ⟨b, off, e, fun j hj => ⟨cell_later (hc j hj).1 hb, cell_later (hc j hj).2.1 hb, cell_later (hc j hj).2.2.1 hb, cell_later (hc j hj).2.2.2.1 hb, cell_later (hc j hj).2.2.2.2.1 hb, cell_later (hc j hj).2.2.2.2.2 hb⟩⟩
def FitRs (l : List Rl) : Prop := ∀ r ∈ l, FitR r
theorem big_nil : Big [] := by unfold Big; simp
theorem FitRs.at {l : List Rl} (h : FitRs l) (j : Nat) : FitR (l.getD j rl0) := by
  by_cases hj : j < l.length
  · rw [List.getD, List.getElem?_eq_getElem hj]
    exact h _ (List.getElem_mem hj)
  · rw [List.getD, List.getElem?_eq_none (by omega)]
    exact ⟨big_nil, big_nil, big_nil, big_nil⟩
theorem getR_at {l : List Rl} {k : Nat} (hk : k < l.length) : l.getD k rl0 = l[k] := by simp [List.getD, List.getElem?_eq_getElem hk]
theorem mat_short {m : Mat} (h : fMat m = true) : m.name.length ≤ 20 ∧ m.text.length ≤ 30 := by
  unfold fMat at h
  simp only [Bool.and_eq_true, decide_eq_true_iff] at h
  exact ⟨(name_len h.1.1.1).2, h.1.2⟩
theorem text_short {s : Str} (h : fText s = true) : s.length ≤ 30 := by
  unfold fText at h
  simp only [Bool.and_eq_true, decide_eq_true_iff] at h
  exact h.1
theorem bare_nil {r : Rl} (h : bare r = true) : r.tgt = [] ∧ r.txt = [] := by
  unfold bare at h
  simpa using h
theorem rule_short {r : Rl} (h : fRule r = true) : Short r := by
  unfold fRule at h
  unfold Short
  by_cases h1 : r.act = 1
  · rw [if_pos h1, Bool.and_eq_true] at h
    have a := mat_short h.1
    obtain ⟨b, c⟩ := bare_nil h.2
    rw [b, c]
    exact ⟨by omega, by omega, by simp, by simp⟩
  · by_cases h2 : r.act = 2
    · rw [if_neg h1, if_pos h2, Bool.and_eq_true] at h
      have a := mat_short h.1
      obtain ⟨b, c⟩ := bare_nil h.2
      rw [b, c]
      exact ⟨by omega, by omega, by simp, by simp⟩
    · by_cases h3 : r.act = 3
      · rw [if_neg h1, if_neg h2, if_pos h3, Bool.and_eq_true, Bool.and_eq_true] at h
        have a := mat_short h.1.1
        have b := (name_len h.1.2).2
        have c := text_short h.2
        exact ⟨by omega, by omega, by omega, by omega⟩
      · by_cases h4 : r.act = 4
        · rw [if_neg h1, if_neg h2, if_neg h3, if_pos h4, Bool.and_eq_true, Bool.and_eq_true, Bool.and_eq_true] at h
          have a : r.frm.name = [] := by simpa using h.1.1.1
          have d := text_short h.1.2
          obtain ⟨b, c⟩ := bare_nil h.2
          rw [a, b, c]
          exact ⟨by simp, by omega, by simp, by simp⟩
        · rw [if_neg h1, if_neg h2, if_neg h3, if_neg h4] at h
          cases h
theorem ok_no {rs : List Rl} {j : Nat} (hj : j < rs.length) (h : fRule (rs.getD j rl0) = false) : rulesOk rs = false := by
  unfold rulesOk
  rw [Bool.eq_false_iff]
  intro ha
  have := List.all_eq_true.1 ha _ (List.getElem_mem hj)
  rw [getR_at hj] at h
  rw [h] at this
  cases this
theorem ok_step {rs : List Rl} {j : Nat} (hj : j < rs.length) (h : rulesOk (rs.take j) = true) (hr : fRule (rs.getD j rl0) = true) : rulesOk (rs.take (j + 1)) = true := by
  unfold rulesOk at *
  rw [List.take_succ_eq_append_getElem hj, List.all_append, h]
  rw [getR_at hj] at hr
  simp [hr]
theorem ok_all {rs : List Rl} {j : Nat} (hj : rs.length ≤ j) (h : rulesOk (rs.take j) = true) : rulesOk rs = true := by
  rwa [List.take_of_length_le hj] at h
theorem ok_at {rs : List Rl} {j : Nat} (hj : j < rs.length) (h : rulesOk rs = true) : fRule (rs.getD j rl0) = true := by
  rw [getR_at hj]
  exact List.all_eq_true.1 h _ (List.getElem_mem hj)
/-- As far as rule j. -/
def upA (l : List Pr) (rs : List Rl) (j : Nat) : List Pr := (apAll l (rs.take j)).1
def upK (l : List Pr) (rs : List Rl) (j : Nat) : Bool := (apAll l (rs.take j)).2.1
theorem up_step {l : List Pr} {rs : List Rl} {j : Nat} (hj : j < rs.length) (h : upK l rs j = true) (hk : ap1K (upA l rs j) (rs.getD j rl0) = true) : upK l rs (j + 1) = true ∧ upA l rs (j + 1) = ap1S (upA l rs j) (rs.getD j rl0) := by
  unfold upK upA at *
  rw [getR_at hj] at *
  rw [List.take_succ_eq_append_getElem hj, apAll_snoc _ _ _ h, if_pos hk]
  exact ⟨rfl, rfl⟩
theorem up_stop {l : List Pr} {rs : List Rl} {j : Nat} (hj : j < rs.length) (h : upK l rs j = true) (hk : ap1K (upA l rs j) (rs.getD j rl0) = false) : apAll l rs = ([], false, ap1E (upA l rs j) (rs.getD j rl0)) := by
  unfold upK upA at *
  rw [getR_at hj] at *
  have hk' : ¬ ap1K (apAll l (rs.take j)).1 rs[j] = true := by rw [hk]; simp
  have e2 : apAll l (rs.take (j + 1)) = ([], false, ap1E (apAll l (rs.take j)).1 rs[j]) := by rw [List.take_succ_eq_append_getElem hj, apAll_snoc _ _ _ h, if_neg hk']
  have e3 : apAll l (rs.take (j + 1) ++ rs.drop (j + 1)) = ([], false, ap1E (apAll l (rs.take j)).1 rs[j]) := by rw [apAll_append, e2, if_neg (by simp)]
  rwa [List.take_append_drop] at e3
theorem up_is {l : List Pr} {rs : List Rl} {j : Nat} (hl : fIs l = true) (h : upK l rs j = true) : fIs (upA l rs j) = true := apAll_is hl h
theorem up_all {l : List Pr} {rs : List Rl} {j : Nat} (hj : rs.length ≤ j) (h : upK l rs j = true) : apAll l rs = (upA l rs j, true, 0) := by
  have he := apAll_e h
  unfold upK upA at *
  rw [List.take_of_length_le hj] at *
  rw [← h, ← he]

set_option maxRecDepth 100000 in
set_option maxHeartbeats 4000000 in
theorem apply_any (xa : Option Addr) (n c : Nat) (l : List Pr) (ya : Option Addr) (m d : Nat) (rs : List Rl) (w : World) (hn : n ≤ 1000) (hmm : m ≤ 9223372036854775807) (hfl : Fit l) (hfr : FitRs rs) (hx : Ps w xa n l) (hy : Rs w ya m rs) (hm : Mx w) :
    Calls Tryz.prog 10 #[.slice xa n c, .slice ya m d] w fun e w' => ∃ ao N cap, e = .returned (.tuple #[.slice ao N cap, .bool (fApply l rs).2.1, .int .i64 (fApply l rs).2.2]) ∧ Ps w' ao N (fApply l rs).1 ∧ Below w.heap.size w w' := by
  have hisr := fun j W => isR_any (rs.getD j rl0) W (hfr.at j)
  have hro := fun j => ruleOf_any (rs.getD j rl0)
  have hwi := fun W (hW : Below w.heap.size w W) => with_any xa n c l none 0 0 [] W (by omega) (by omega) hfl (fun p hp => by cases hp) (hx.later hW) (Ps.nil _ _)
  rw [(with_nil l).1, (with_nil l).2] at hwi
  have HNo : Hid _ := @ok_no rs
  have HOk : Hid _ := @ok_step rs
  have HAl : Hid _ := @ok_all rs
  obtain ⟨hlen, hcell⟩ := hy
  have HL : Hid (rs.length = m) := hlen
  clear hlen
  go_enter Tryz.func10, Tryz.ntmps10
  go_wp2_with fail
  go_loopw [16] (fun i W => ∃ j : Nat, j ≤ m ∧ i = .int .i64 j ∧ Hid (rulesOk (rs.take j) = true) ∧ Below w.heap.size w W) (fun i _ => m - (intOf i).toNat)
  case atStart => exact ⟨0, by omega, rfl, rfl, Below.refl _ _⟩
  case round =>
    obtain ⟨j, hj, rfl, ho, hb⟩ := hrel
    by_cases hlt : j < m
    · obtain ⟨b, off, rfl, hc⟩ := hcell (by omega)
      obtain ⟨d0, d1, d2, d3, d4, d5⟩ := hc j hlt
      have k0 := cell_later d0 hb
      have k1 := cell_later d1 hb
      have k2 := cell_later d2 hb
      have k3 := cell_later d3 hb
      have k4 := cell_later d4 hb
      have k5 := cell_later d5 hb
      have hlt' : j < rs.length := by rw [HL.out]; exact hlt
      have HN : Hid _ := HNo.out hlt'
      have HO : Hid _ := HOk.out hlt' ho.out
      have hi := hisr j
      have hb1 := fun o => bal hb o
      clear hc hcell d0 d1 d2 d3 d4 d5 hlt' HNo HOk HAl hisr hro hwi ho hx
      generalize rs.getD j rl0 = r at *
      cases hr : fRule r with
      | true =>
        have HR : Hid _ := HO.out hr
        rw [hr] at hi
        clear HN HO hr
        obtain ⟨act, ⟨nn, kk, tt⟩, tgt, txt⟩ := r
        dsimp only at *
        go_wp2_with fail
        have hb2 := hb1 (.cells #[.int .i64 act, tx nn, .int .i64 kk, tx tt, tx tgt, tx txt] 35)
        generalize wr.alloc (.cells _ 35) = wa at *
        refine (hi _).mono ?_
        rintro e w1 ⟨rfl, hb3⟩
        go_wp2_with fail
        go_roundw
        case rel => exact ⟨j + 1, by omega, by go_num, HR, Below.chain hb2 hb3⟩
        case measure => simp [intOf]; omega
      | false =>
        have HR : Hid (fApply l rs = ([], false, 12)) := by show _ = _; unfold fApply; rw [HN.out hr, if_neg (by simp)]
        rw [hr] at hi
        clear HN HO hr
        obtain ⟨act, ⟨nn, kk, tt⟩, tgt, txt⟩ := r
        dsimp only at *
        go_wp2_with fail
        have hb2 := hb1 (.cells #[.int .i64 act, tx nn, .int .i64 kk, tx tt, tx tgt, tx txt] 35)
        generalize wr.alloc (.cells _ 35) = wa at *
        refine (hi _).mono ?_
        rintro e w1 ⟨rfl, hb3⟩
        go_wp2_with fail
        go_ret3
        exact ⟨none, 0, 0, by rw [HR.out]; rfl, by rw [HR.out]; exact Ps.nil _ _, Below.chain hb2 hb3⟩
    · have HOA : Hid (rulesOk rs = true) := HAl.out (by rw [HL.out]; omega) ho.out
      have hw1 := hwi wr hb
      have HF : Hid (fApply l rs = if fIs l = true then apAll l rs else ([], false, 30)) := by show _ = _; unfold fApply; rw [HOA.out, if_pos rfl]
      clear HNo HOk HAl ho hwi hisr
      cases hil : fIs l with
      | false =>
        rw [hil, if_neg (by simp)] at hw1
        have HR : Hid (fApply l rs = ([], false, 30)) := by show _ = _; rw [HF.out, hil, if_neg (by simp)]
        clear HF hil
        go_wp2_with fail
        refine hw1.mono ?_
        rintro e w1 ⟨v1, rfl, o1, hb1⟩
        go_wp2_with fail
        go_ret3
        exact ⟨none, 0, 0, by rw [HR.out]; rfl, by rw [HR.out]; exact Ps.nil _ _, Below.chain hb hb1⟩
      | true =>
        rw [hil, if_pos rfl] at hw1
        rw [if_pos rfl] at hw1
        have HR : Hid (fApply l rs = apAll l rs) := by show _ = _; rw [HF.out, hil, if_pos rfl]
        have HIL : Hid _ := hil
        clear hil HF
        go_wp2_with fail
        refine hw1.mono ?_
        rintro e w1 ⟨v1, rfl, o1, hb1⟩
        have B1 := Below.chain hb hb1
        obtain ⟨ao1, cap1, rfl, hp1⟩ := o1.fitN
        have hll : l.length ≤ 8 := (is_short HIL.out).1
        have hat : ∃ ao N cap, Value.slice ao1 l.length cap1 = .slice ao N cap ∧ Ps w1 ao N (upA l rs 0) := ⟨_, _, _, rfl, hp1⟩
        generalize l.length = N1 at *
        clear hw1 hp1 o1 hb1 hb
        go_wp2_with fail
        go_loopw [34, 9] (fun i u W => ∃ (j : Nat) (ao : Option Addr) (N cap : Nat), j ≤ m ∧ i = .int .i64 j ∧ u = .slice ao N cap ∧ Ps W ao N (upA l rs j) ∧ Hid (upK l rs j = true) ∧ Below w.heap.size w W) (fun i _ _ => m - (intOf i).toNat)
        case atStart =>
          obtain ⟨ao, N, cap, e, hp⟩ := hat
          exact ⟨0, ao, N, cap, by omega, rfl, e, hp, rfl, B1⟩
        case round =>
          obtain ⟨j, ao, N, cap, hj, rfl, rfl, hps, HK, hb⟩ := hrel
          by_cases hlt : j < m
          · obtain ⟨b, off, rfl, hc⟩ := hcell (by omega)
            obtain ⟨d0, d1, d2, d3, d4, d5⟩ := hc j hlt
            have k0 := cell_later d0 hb
            have k1 := cell_later d1 hb
            have k2 := cell_later d2 hb
            have k3 := cell_later d3 hb
            have k4 := cell_later d4 hb
            have k5 := cell_later d5 hb
            have hlt' : j < rs.length := by rw [HL.out]; exact hlt
            have HSt : Hid _ := up_step (l := l) hlt' HK.out
            have HSp : Hid _ := up_stop (l := l) hlt' HK.out
            have hrd := hro j
            have hsh := rule_short (ok_at hlt' HOA.out)
            have hap := fun W (hW : Below w.heap.size w W) (hp : Ps W ao N (upA l rs j)) => apply1_any (rs.getD j rl0) ao N cap (upA l rs j) W (hfr.at j) hsh (up_is HIL.out HK.out) hp (hm.later hW)
            have hb1 := fun o => bal hb o
            have hps1 := fun o => hps.later (bal (Below.refl _ wr) o)
            clear hc hcell d0 d1 d2 d3 d4 d5 hlt' hro hx hat B1 HK hsh
            generalize rs.getD j rl0 = r at *
            generalize upA l rs j = la at *
            cases hk : ap1K la r with
            | true =>
              have HA : Hid _ := HSt.out hk
              rw [hk] at hap
              clear HSt HSp hk
              generalize ap1S la r = lb at *
              generalize ap1E la r = eb at *
              obtain ⟨act, ⟨nn, kk, tt⟩, tgt, txt⟩ := r
              dsimp only at *
              go_wp2_with fail
              have hb2 := hb1 (.cells #[.int .i64 act, tx nn, .int .i64 kk, tx tt, tx tgt, tx txt] 35)
              have hp2 := hps1 (.cells #[.int .i64 act, tx nn, .int .i64 kk, tx tt, tx tgt, tx txt] 35)
              generalize wr.alloc (.cells _ 35) = wa at *
              refine (hrd _).mono ?_
              rintro e w2 ⟨rfl, hb3⟩
              go_wp2_with fail
              refine (hap _ (Below.chain hb2 hb3) (hp2.later hb3)).mono ?_
              rintro e w3 ⟨ao3, N3, cap3, rfl, hps3, hb4⟩
              go_wp2_with fail
              go_roundw
              case rel => exact ⟨j + 1, ao3, N3, cap3, by omega, by go_num, rfl, by rw [HA.out.2]; exact hps3, HA.out.1, Below.chain (Below.chain hb2 hb3) hb4⟩
              case measure => simp [intOf]; omega
            | false =>
              have HA : Hid _ := HSp.out hk
              have HF : Hid (fApply l rs = ([], false, ap1E la r)) := by show _ = _; rw [HR.out, HA.out]
              rw [hk] at hap
              clear HSt HSp hk HA HR
              generalize ap1S la r = lb at *
              generalize ap1E la r = eb at *
              obtain ⟨act, ⟨nn, kk, tt⟩, tgt, txt⟩ := r
              dsimp only at *
              go_wp2_with fail
              have hb2 := hb1 (.cells #[.int .i64 act, tx nn, .int .i64 kk, tx tt, tx tgt, tx txt] 35)
              have hp2 := hps1 (.cells #[.int .i64 act, tx nn, .int .i64 kk, tx tt, tx tgt, tx txt] 35)
              generalize wr.alloc (.cells _ 35) = wa at *
              refine (hrd _).mono ?_
              rintro e w2 ⟨rfl, hb3⟩
              go_wp2_with fail
              refine (hap _ (Below.chain hb2 hb3) (hp2.later hb3)).mono ?_
              rintro e w3 ⟨ao3, N3, cap3, rfl, hps3, hb4⟩
              go_wp2_with fail
              go_ret3
              exact ⟨none, 0, 0, by rw [HF.out]; rfl, by rw [HF.out]; exact Ps.nil _ _, Below.chain (Below.chain hb2 hb3) hb4⟩
          · have HA : Hid (apAll l rs = (upA l rs j, true, 0)) := up_all (by rw [HL.out]; omega) HK.out
            have HF : Hid (fApply l rs = (upA l rs j, true, 0)) := by show _ = _; rw [HR.out, HA.out]
            clear HA HR HK
            go_wp2_with fail
            go_ret3
            exact ⟨_, _, _, by rw [HF.out]; rfl, by rw [HF.out]; exact hps, hb⟩
end Go.Proofs.YtideieolgjhbiaaGreatDoor
