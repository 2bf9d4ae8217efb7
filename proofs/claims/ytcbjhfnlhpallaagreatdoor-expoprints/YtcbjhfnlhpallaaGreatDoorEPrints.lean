/- ExpoPrints: true, for every samples. -/
import Derived.Test.YtcbjhfnlhpallaaGreatDoorEPrint
import Derived.Test.YtcbjhfnlhpallaaGreatDoorEPrintR
import Derived.Test.YtcbjhfnlhpallaaGreatDoorECmp
namespace Go.Proofs.YtcbjhfnlhpallaaGreatDoor
open Go.RowKit

def Wf0 (o : List Scr) : Prop := ∀ x ∈ o, x.ls.length ≤ 9223372036854775807 ∧ Fit x.ls ∧ Fx.R64 x.n ∧ Fx.R64 x.t ∧ Fx.R64 x.kind
theorem Wf0.at {o : List Scr} (h : Wf0 o) {j : Nat} (hj : j < o.length) : (o.getD j scr0).ls.length ≤ 9223372036854775807 ∧ Fit (o.getD j scr0).ls ∧ Fx.R64 (o.getD j scr0).n ∧ Fx.R64 (o.getD j scr0).t ∧ Fx.R64 (o.getD j scr0).kind :=
  h _ (by simp [List.getD, List.getElem?_eq_getElem hj])
def few (o : List Scr) (j : Nat) : Prop := ∀ i, i < j → (o.getD i scr0).ls.length ≤ 12
theorem few_all {o : List Scr} (h : few o o.length) : ∀ x ∈ o, x.ls.length ≤ 12 := fun x hx => by
  obtain ⟨i, hi, e⟩ := List.getElem_of_mem hx
  have := h i hi
  simp only [List.getD, List.getElem?_eq_getElem hi, Option.getD_some] at this
  rw [e] at this
  exact this
def allS (o : List Scr) (j : Nat) : Bool := (o.take j).all fIsS
theorem allS_succ {o : List Scr} {j : Nat} (h : j < o.length) : allS o (j + 1) = (allS o j && fIsS (o.getD j scr0)) := by
  unfold allS
  rw [List.take_succ_eq_append_getElem h, List.all_append]
  simp only [List.all_cons, List.all_nil, Bool.and_true, List.getD, List.getElem?_eq_getElem h, Option.getD_some]
theorem printS_good {o : List Scr} (h : fPrintS o ≠ []) : (∀ x ∈ o, good x = true) ∧ fPrintS o = ended (prL zk o) := by
  have ha : o.all good = true := by
    rcases hasB (o.all good) with h1 | h1
    · exact h1
    · exfalso
      apply h
      unfold fPrintS
      rw [if_neg (by rw [h1]; simp)]
  have hg := List.all_eq_true.1 ha
  exact ⟨hg, printS_yes hg⟩
theorem print_back {o : List Scr} (h : fPrintS o ≠ []) (hn : ∀ x ∈ o, x.n ≤ 9223372036854775807) (hl : (fPrintS o).length ≤ 3000) : (bodyS (fPrintS o)).out = o ∧ (bodyS (fPrintS o)).bad = [] := by
  obtain ⟨h1, h2⟩ := printS_good h
  rw [h2] at hl ⊢
  exact print_body (fun x hx => ⟨h1 x hx, hn x hx⟩) hl
set_option maxRecDepth 40000 in
set_option maxHeartbeats 16000000 in
theorem prints_any (ao : Option Addr) (len cap : Nat) (o : List Scr) (w : World) (hn : len ≤ 9223372036854775807) (hx : Xs w ao len o) (hw : Wf0 o) (he : Ev w) : Calls Tryz.prog 4 #[.slice ao len cap] w fun e w' => e = .returned (.bool true) ∧ Below w.heap.size w w' := by
  have hk := known_any w he
  by_cases h12 : (12 : Int) < len
  · go_enter Tryz.func4, Tryz.ntmps4
    go_wp2_with fail
    refine hk.mono ?_
    rintro e w1 ⟨rfl, hb1⟩
    go_wp2
    go_ret
    exact ⟨rfl, hb1⟩
  · have HX : Hid (Xs w ao len o) := hx
    obtain ⟨hlen, hcell⟩ := hx
    have HL : Hid (o.length = len) := hlen
    clear hlen
    go_enter Tryz.func4, Tryz.ntmps4
    go_wp2_with fail
    refine hk.mono ?_
    rintro e w1 ⟨rfl, hb1⟩
    go_wp2_with fail
    go_loopw [3, 4] (fun av i wr => ∃ j : Nat, j ≤ len ∧ av = .bool (allS o j) ∧ i = .int .i64 j ∧ Hid (few o j) ∧ Below w.heap.size w wr) (fun _ i _ => len - (intOf i).toNat)
    case atStart => exact ⟨0, by omega, rfl, rfl, (fun i hi => by omega), hb1⟩
    case round =>
      obtain ⟨j, hj, rfl, rfl, HF, hb⟩ := hrel
      by_cases hlt : j < len
      · obtain ⟨b, off, rfl, hc⟩ := hcell (by omega)
        obtain ⟨la, lc, hps, e0, e1, e2, e3, e4, e5⟩ := hc j hlt
        have hjo : j < o.length := by rw [HL.out]; exact hlt
        have HA : Hid _ := allS_succ hjo
        have HF2 : Hid ((o.getD j scr0).ls.length ≤ 12 → few o (j + 1)) := fun h i hi => by
          rcases Nat.lt_or_ge i j with h1 | h1
          · exact HF.out i h1
          · obtain rfl : i = j := by omega
            exact h
        obtain ⟨q1, q2, q3, q4, q5⟩ := hw.at hjo
        have hlt' : (j : Int) < len := by omega
        clear hc hcell HF hw
        generalize o.getD j scr0 = x at *
        generalize allS o j = A at *
        by_cases h13 : 12 < x.ls.length
        · have h13' : (12 : Int) < x.ls.length := by omega
          have h13d : decide ((12 : Int) < x.ls.length) = true := decide_eq_true h13'
          have k0 := cell_later' e0 hb
          clear e0 e1 e2 e3 e4 e5 hps h13
          go_wp2
          go_quiet (fail)
          go_wp2
          go_ret
          exact ⟨rfl, below_drewN hb _⟩
        · have h13' : ¬ (12 : Int) < x.ls.length := by omega
          have h13d : decide ((12 : Int) < x.ls.length) = false := decide_eq_false h13'
          have HFW : Hid _ := HF2.out (by omega)
          have his := fun W h => isS_any la lc x W (by omega) q2 h
          have hri := fun W h => refIsS_any la lc x W (by omega) q3.1 q2 h
          generalize fIsS x = I at *
          have hII : (I != I) = false := by simp
          clear HF2 h13
          go_wp2_with fail
          have D0 : Below wr.heap.size wr wr.drew := (Below.refl _ _).drew
          have B2 := Below.chain hb D0
          have hp2 := hps.later B2
          refine wp_region_noPanic ?_
          refine wp_region_held_drew (S := (fun W => W.cell? ⟨b, off + j * 6, none⟩ = some (.slice la x.ls.length lc) ∧ W.cell? ⟨b, off + j * 6 + 1, none⟩ = some (.bool x.ov) ∧ W.cell? ⟨b, off + j * 6 + 2, none⟩ = some (.int .i64 x.n) ∧ W.cell? ⟨b, off + j * 6 + 3, none⟩ = some (.int .i64 x.t) ∧ W.cell? ⟨b, off + j * 6 + 4, none⟩ = some (.bool x.has) ∧ W.cell? ⟨b, off + j * 6 + 5, none⟩ = some (.int .i64 x.kind))) (by kernel_rfl) ?_ (fun _ => ?_)
          · exact ⟨cell_later' e0 B2, cell_later' e1 B2, cell_later' e2 B2, cell_later' e3 B2, cell_later' e4 B2, cell_later' e5 B2⟩
          generalize wr.drew = w2 at *
          refine take_at 0 (some 19) (.slice (some ⟨b, off, none⟩) len cap) rfl rfl (by kernel_rfl) (by kernel_rfl) (by kernel_rfl) (fun _ _ _ h => h) (by rfl) (fun W hSw => by go_simp) ⟨cell_later' e0 B2, cell_later' e1 B2, cell_later' e2 B2, cell_later' e3 B2, cell_later' e4 B2, cell_later' e5 B2⟩ ?_
          simp only [Act.put, List.setIfInBounds_toArray, List.set_cons_zero, List.set_cons_succ]
          refine take_at 1 (some 20) (.int .i64 (j : Int)) rfl rfl (by kernel_rfl) (by kernel_rfl) (by kernel_rfl) (fun _ _ _ h => h) (by rfl) (fun W hSw => by go_simp) ⟨cell_later' e0 B2, cell_later' e1 B2, cell_later' e2 B2, cell_later' e3 B2, cell_later' e4 B2, cell_later' e5 B2⟩ ?_
          simp only [Act.put, List.setIfInBounds_toArray, List.set_cons_zero, List.set_cons_succ]
          refine take_at 2 (some 21) (.pointer (some ⟨b, off + j * 6, none⟩)) rfl rfl (by kernel_rfl) (by kernel_rfl) (by kernel_rfl) (fun _ _ _ h => h) (by rfl) (fun W hSw => by go_simp) ⟨cell_later' e0 B2, cell_later' e1 B2, cell_later' e2 B2, cell_later' e3 B2, cell_later' e4 B2, cell_later' e5 B2⟩ ?_
          simp only [Act.put, List.setIfInBounds_toArray, List.set_cons_zero, List.set_cons_succ]
          refine take_at 3 (some 22) (.pointer (some ⟨b, off + j * 6, none⟩)) rfl rfl (by kernel_rfl) (by kernel_rfl) (by kernel_rfl) (fun _ _ _ h => h) (by rfl) (fun W hSw => by go_simp) ⟨cell_later' e0 B2, cell_later' e1 B2, cell_later' e2 B2, cell_later' e3 B2, cell_later' e4 B2, cell_later' e5 B2⟩ ?_
          simp only [Act.put, List.setIfInBounds_toArray, List.set_cons_zero, List.set_cons_succ]
          refine take_at 4 (some 23) (.slice la x.ls.length lc) rfl rfl (by kernel_rfl) (by kernel_rfl) (by kernel_rfl) (fun _ _ _ h => h) (by rfl) (fun W hSw => by obtain ⟨s0, s1, s2, s3, s4, s5⟩ := hSw; go_simp) ⟨cell_later' e0 B2, cell_later' e1 B2, cell_later' e2 B2, cell_later' e3 B2, cell_later' e4 B2, cell_later' e5 B2⟩ ?_
          simp only [Act.put, List.setIfInBounds_toArray, List.set_cons_zero, List.set_cons_succ]
          refine take_at 5 (some 24) (.int .i64 (x.ls.length : Int)) rfl rfl (by kernel_rfl) (by kernel_rfl) (by kernel_rfl) (fun _ _ _ h => h) (by rfl) (fun W hSw => by go_simp) ⟨cell_later' e0 B2, cell_later' e1 B2, cell_later' e2 B2, cell_later' e3 B2, cell_later' e4 B2, cell_later' e5 B2⟩ ?_
          simp only [Act.put, List.setIfInBounds_toArray, List.set_cons_zero, List.set_cons_succ]
          refine take_at 6 (some 25) (.bool false) rfl rfl (by kernel_rfl) (by kernel_rfl) (by kernel_rfl) (fun _ _ _ h => h) (by rfl) (fun W hSw => by go_simp) ⟨cell_later' e0 B2, cell_later' e1 B2, cell_later' e2 B2, cell_later' e3 B2, cell_later' e4 B2, cell_later' e5 B2⟩ ?_
          simp only [Act.put, List.setIfInBounds_toArray, List.set_cons_zero, List.set_cons_succ]
          refine take_at 7 (some 26) (.bool false) rfl rfl (by kernel_rfl) (by kernel_rfl) (by kernel_rfl) (fun _ _ _ h => h) (by rfl) (fun W hSw => by go_simp) ⟨cell_later' e0 B2, cell_later' e1 B2, cell_later' e2 B2, cell_later' e3 B2, cell_later' e4 B2, cell_later' e5 B2⟩ ?_
          simp only [Act.put, List.setIfInBounds_toArray, List.set_cons_zero, List.set_cons_succ]
          refine take_at 8 (some 27) (.slice (some ⟨b, off, none⟩) len cap) rfl rfl (by kernel_rfl) (by kernel_rfl) (by kernel_rfl) (fun _ _ _ h => h) (by rfl) (fun W hSw => by go_simp) ⟨cell_later' e0 B2, cell_later' e1 B2, cell_later' e2 B2, cell_later' e3 B2, cell_later' e4 B2, cell_later' e5 B2⟩ ?_
          simp only [Act.put, List.setIfInBounds_toArray, List.set_cons_zero, List.set_cons_succ]
          refine take_at 9 (some 28) (.int .i64 (j : Int)) rfl rfl (by kernel_rfl) (by kernel_rfl) (by kernel_rfl) (fun _ _ _ h => h) (by rfl) (fun W hSw => by go_simp) ⟨cell_later' e0 B2, cell_later' e1 B2, cell_later' e2 B2, cell_later' e3 B2, cell_later' e4 B2, cell_later' e5 B2⟩ ?_
          simp only [Act.put, List.setIfInBounds_toArray, List.set_cons_zero, List.set_cons_succ]
          refine take_at 10 (some 29) (.pointer (some ⟨b, off + j * 6, none⟩)) rfl rfl (by kernel_rfl) (by kernel_rfl) (by kernel_rfl) (fun _ _ _ h => h) (by rfl) (fun W hSw => by go_simp) ⟨cell_later' e0 B2, cell_later' e1 B2, cell_later' e2 B2, cell_later' e3 B2, cell_later' e4 B2, cell_later' e5 B2⟩ ?_
          simp only [Act.put, List.setIfInBounds_toArray, List.set_cons_zero, List.set_cons_succ]
          refine take_at 11 (some 30) (.agg #[.slice la x.ls.length lc, .bool x.ov, .int .i64 x.n, .int .i64 x.t, .bool x.has, .int .i64 x.kind]) rfl rfl (by kernel_rfl) (by kernel_rfl) (by kernel_rfl) (fun _ _ _ h => h) (by rfl) (fun W hSw => by obtain ⟨s0, s1, s2, s3, s4, s5⟩ := hSw; go_simp) ⟨cell_later' e0 B2, cell_later' e1 B2, cell_later' e2 B2, cell_later' e3 B2, cell_later' e4 B2, cell_later' e5 B2⟩ ?_
          simp only [Act.put, List.setIfInBounds_toArray, List.set_cons_zero, List.set_cons_succ]
          refine take_at 13 (some 32) (.slice (some ⟨b, off, none⟩) len cap) rfl rfl (by kernel_rfl) (by kernel_rfl) (by kernel_rfl) (fun _ _ _ h => h) (by rfl) (fun W hSw => by go_simp) ⟨cell_later' e0 B2, cell_later' e1 B2, cell_later' e2 B2, cell_later' e3 B2, cell_later' e4 B2, cell_later' e5 B2⟩ ?_
          simp only [Act.put, List.setIfInBounds_toArray, List.set_cons_zero, List.set_cons_succ]
          refine take_at 14 (some 33) (.int .i64 (j : Int)) rfl rfl (by kernel_rfl) (by kernel_rfl) (by kernel_rfl) (fun _ _ _ h => h) (by rfl) (fun W hSw => by go_simp) ⟨cell_later' e0 B2, cell_later' e1 B2, cell_later' e2 B2, cell_later' e3 B2, cell_later' e4 B2, cell_later' e5 B2⟩ ?_
          simp only [Act.put, List.setIfInBounds_toArray, List.set_cons_zero, List.set_cons_succ]
          refine take_at 15 (some 34) (.pointer (some ⟨b, off + j * 6, none⟩)) rfl rfl (by kernel_rfl) (by kernel_rfl) (by kernel_rfl) (fun _ _ _ h => h) (by rfl) (fun W hSw => by go_simp) ⟨cell_later' e0 B2, cell_later' e1 B2, cell_later' e2 B2, cell_later' e3 B2, cell_later' e4 B2, cell_later' e5 B2⟩ ?_
          simp only [Act.put, List.setIfInBounds_toArray, List.set_cons_zero, List.set_cons_succ]
          refine take_at 16 (some 35) (.agg #[.slice la x.ls.length lc, .bool x.ov, .int .i64 x.n, .int .i64 x.t, .bool x.has, .int .i64 x.kind]) rfl rfl (by kernel_rfl) (by kernel_rfl) (by kernel_rfl) (fun _ _ _ h => h) (by rfl) (fun W hSw => by obtain ⟨s0, s1, s2, s3, s4, s5⟩ := hSw; go_simp) ⟨cell_later' e0 B2, cell_later' e1 B2, cell_later' e2 B2, cell_later' e3 B2, cell_later' e4 B2, cell_later' e5 B2⟩ ?_
          simp only [Act.put, List.setIfInBounds_toArray, List.set_cons_zero, List.set_cons_succ]
          refine wpAnyH_ready (rs := [12]) (by kernel_rfl) (by simp) ?_
          refine AllReadyH.cons rfl (fun K hK => ?_) AllReadyH.nil
          go_simp
          refine (his _ hp2).mono ?_
          rintro e w3 ⟨rfl, hb3⟩
          have B3 := Below.chain B2 hb3
          have hp3 := hps.later B3
          refine hK.out _ _ ?_ (fun _ => ?_)
          · exact ⟨cell_later' e0 B3, cell_later' e1 B3, cell_later' e2 B3, cell_later' e3 B3, cell_later' e4 B3, cell_later' e5 B3⟩
          clear hK K
          refine wpAnyH_ready (rs := [17]) (by kernel_rfl) (by simp) ?_
          refine AllReadyH.cons rfl (fun K hK => ?_) AllReadyH.nil
          go_simp
          refine (hri _ hp3).mono ?_
          rintro e w4 ⟨rfl, hb4⟩
          have B4 := Below.chain B3 hb4
          have hp4 := hps.later B4
          refine hK.out _ _ ?_ (fun _ => ?_)
          · exact ⟨cell_later' e0 B4, cell_later' e1 B4, cell_later' e2 B4, cell_later' e3 B4, cell_later' e4 B4, cell_later' e5 B4⟩
          clear hK K
          refine take_at 18 (some 37) (.bool false) rfl rfl (by kernel_rfl) (by kernel_rfl) (by kernel_rfl) (fun _ _ _ h => h) (by rfl) (fun W hSw => by go_simp) ⟨cell_later' e0 B4, cell_later' e1 B4, cell_later' e2 B4, cell_later' e3 B4, cell_later' e4 B4, cell_later' e5 B4⟩ ?_
          simp only [Act.put, List.setIfInBounds_toArray, List.set_cons_zero, List.set_cons_succ]
          refine take_at 19 (some 38) (.bool false) rfl rfl (by kernel_rfl) (by kernel_rfl) (by kernel_rfl) (fun _ _ _ h => h) (by rfl) (fun W hSw => by go_simp) ⟨cell_later' e0 B4, cell_later' e1 B4, cell_later' e2 B4, cell_later' e3 B4, cell_later' e4 B4, cell_later' e5 B4⟩ ?_
          simp only [Act.put, List.setIfInBounds_toArray, List.set_cons_zero, List.set_cons_succ]
          refine wpAnyH_done (by kernel_rfl) ?_ _
          refine NoPanic.normal ?_
          have k0 := cell_later' e0 B4
          have k1 := cell_later' e1 B4
          have k2 := cell_later' e2 B4
          have k3 := cell_later' e3 B4
          have k4 := cell_later' e4 B4
          have k5 := cell_later' e5 B4
          cases A with
          | true =>
            go_wp2_with fail
            refine (his _ hp4).mono ?_
            rintro e w5 ⟨rfl, hb5⟩
            have B5 := Below.chain B4 hb5
            go_wp2
            go_roundw
            case rel => exact ⟨j + 1, by omega, by rw [HA.out]; rfl, by go_num, HFW, B5⟩
            case measure => simp [intOf]; omega
          | false =>
            go_wp2
            go_roundw
            case rel => exact ⟨j + 1, by omega, by rw [HA.out]; rfl, by go_num, HFW, B4⟩
            case measure => simp [intOf]; omega
      · have hle : ¬ (j : Int) < len := by omega
        have HFE : Hid (∀ x ∈ o, x.ls.length ≤ 12) := few_all (by have : j = o.length := by rw [HL.out]; omega
                                                                  rw [← this]; exact HF.out)
        have hwf : Wf o := fun x hx => ⟨by have := HFE.out x hx; omega, (hw x hx).2⟩
        have hth : Thin o := fun x hx => by have := HFE.out x hx; omega
        have hpr := fun W (h : Xs W ao len o) (h2 : Ev W) => printS_any ao len cap o W (by omega) h hwf h2
        have hrp := fun W (h : Xs W ao len o) => refPrintS_any ao len cap o W (by omega) h hwf
        have HB : Hid (fPrintS o ≠ [] → (fPrintS o).length ≤ 3000 → (bodyS (fPrintS o)).out = o ∧ (bodyS (fPrintS o)).bad = []) := fun h h2 => print_back h (fun x hx => (hw x hx).2.2.1.2) h2
        have hxr := HX.out.later hb
        clear HF hcell
        generalize allS o j = A at *
        generalize fPrintS o = T at *
        go_wp2_with fail
        refine (hpr _ hxr (he.later hb)).mono ?_
        rintro e w2 ⟨rfl, hb2⟩
        have B2 := Below.chain hb hb2
        have hx2 := hxr.later hb2
        go_wp2_with fail
        refine (hrp _ hx2).mono ?_
        rintro e w3 ⟨rfl, hb3⟩
        have B3 := Below.chain B2 hb3
        have hx3 := hx2.later hb3
        clear hpr hrp hxr hx2
        cases A with
        | false =>
          go_wp2
          go_ret
          exact ⟨rfl, B3⟩
        | true =>
          by_cases hT : T = []
          · subst hT
            go_wp2
            go_ret
            exact ⟨rfl, B3⟩
          · have hT' : (T == []) = false := beq_eq_false_iff_ne.2 hT
            by_cases hl3 : (3000 : Int) < T.length
            · clear hT
              go_wp2
              go_ret
              exact ⟨rfl, B3⟩
            · obtain ⟨y1, y2⟩ := HB.out hT (by omega)
              have hps := parseV_any T w3 (by omega) (he.later B3)
              rw [y1, y2] at hps
              have HEQ : Hid (eqL o o = true) := (eqL_iff _ _).2 rfl
              have hsm := fun W xo xc (hm : Xs W xo o.length o) (h1 : Xs W ao len o) => sames_any ao len cap o xo o.length xc o W (by omega) hth hth h1 hm
              simp only [HEQ.out] at hsm
              clear hT y1 y2 HB HEQ
              go_wp2_with fail
              refine hps.mono ?_
              rintro e w4 ⟨xo, xc, bo, bc, rfl, hxs, hbs, hb4⟩
              have B4 := Below.chain B3 hb4
              go_wp2_with fail
              refine (hsm _ _ _ hxs (hx3.later hb4)).mono ?_
              rintro e w5 ⟨rfl, hb5⟩
              go_wp2
              go_ret
              exact ⟨rfl, Below.chain B4 hb5⟩
end Go.Proofs.YtcbjhfnlhpallaaGreatDoor
