/- The reference's Print: as the program's. -/
import Derived.Test.YtldlhpokkidmlaaGreatDoorRefIs
import Derived.Test.YtldlhpokkidmlaaGreatDoorRefC
namespace Go.Proofs.YtldlhpokkidmlaaGreatDoor
open Go.RowKit

def oth (mt : Bool) (l : List Pr) : List Pr := l.filter fun p => !(decide (p.1 = nm) && mt)
theorem oth_out {mt : Bool} {l : List Pr} {j : Nat} (hj : j < l.length) (h : (l.getD j ([], [])).1 = nm) (hm : mt = true) : oth mt (l.take (j + 1)) = oth mt (l.take j) := by
  rw [getD_at hj] at h
  unfold oth
  rw [List.take_succ_eq_append_getElem hj, List.filter_append]
  simp [h, hm]
theorem oth_in {mt : Bool} {l : List Pr} {j : Nat} (hj : j < l.length) (h : ¬ ((l.getD j ([], [])).1 = nm ∧ mt = true)) : oth mt (l.take (j + 1)) = oth mt (l.take j) ++ [l.getD j ([], [])] := by
  rw [getD_at hj] at *
  unfold oth
  rw [List.take_succ_eq_append_getElem hj, List.filter_append]
  congr 1
  rw [List.filter_cons, if_pos]
  · rfl
  · by_cases e : l[j].1 = nm
    · cases mt
      · simp
      · exact absurd ⟨e, rfl⟩ h
    · simp [e]
theorem others_oth (l : List Pr) : others l = oth (fName (fGet l nm)) l := by
  unfold others oth
  split
  · rename_i h
    unfold fWithout
    congr 1
    funext p
    simp [h]
  · rename_i h
    rw [Bool.not_eq_true] at h
    rw [h]
    exact (List.filter_eq_self.2 (by simp)).symm
theorem inner_snoc (l : List Pr) (p : Pr) (h : l ≠ []) : inner (l ++ [p]) = inner l ++ ([44] ++ pairT p) := by
  induction l with
  | nil => exact absurd rfl h
  | cons a l ih =>
    cases l with
    | nil => rw [List.singleton_append, inner_cons, inner_one, inner_one]
    | cons b l =>
      have := ih (by simp)
      rw [List.cons_append, List.cons_append, inner_cons, inner_cons, ← List.cons_append, this]
      simp
theorem oth_le (mt : Bool) (l : List Pr) (j : Nat) : (oth mt (l.take j)).length ≤ j :=
  Nat.le_trans (List.length_filter_le _ _) (List.length_take_le _ _)
theorem oth_mem {mt : Bool} {l : List Pr} {j : Nat} {p : Pr} (h : p ∈ oth mt (l.take j)) : p ∈ l := List.mem_of_mem_take (List.mem_filter.1 h).1

set_option maxRecDepth 100000 in
set_option maxHeartbeats 4000000 in
theorem refPrint_any (xa : Option Addr) (n c : Nat) (l : List Pr) (w : World) (hn : n ≤ 9223372036854775807) (hf : Fit l) (hx : Ps w xa n l) :
    Calls Tryz.prog 24 #[.slice xa n c] w fun e w' => e = .returned (tx (fPrint l)) ∧ Below w.heap.size w w' := by
  have his := refIs_any xa n c l w hn hf hx
  cases hil : fIs l with
  | false =>
    have HR : Hid (fPrint l = []) := by show _ = _; unfold fPrint; rw [hil]; rfl
    rw [hil] at his
    clear hil
    go_enter Tryz.func24, Tryz.ntmps24
    go_wp2_with fail
    refine his.mono ?_
    rintro e w1 ⟨rfl, hb1⟩
    go_wp2
    go_ret
    exact ⟨by rw [HR.out]; rfl, hb1⟩
  | true =>
    have hi' := (is_iff l).1 hil
    have hn8 : n ≤ 8 := by rw [← hx.1]; exact hi'.1
    have hsz : ∀ p ∈ l, p.1.length ≤ 20 ∧ p.2.length ≤ 30 := fun p hp => ⟨(name_len (hi'.2.1 p hp).1).2, (val_len (hi'.2.1 p hp).2).2⟩
    have hat : ∀ j, j < n → (l.getD j ([], [])).1.length ≤ 20 ∧ (l.getD j ([], [])).2.length ≤ 30 := fun j hj => hsz _ (by rw [getD_at (by rw [hx.1]; exact hj)]; exact List.getElem_mem _)
    have hgt := fun (W : World) (hW : Below w.heap.size w W) => refGet_any xa n c l nm W hn (hx.later hW)
    have hnl : (fGet l nm).length ≤ 9223372036854775807 := by
      by_cases h : fGet l nm = []
      · rw [h]; simp
      · have := (hsz _ (get_mem h)).2
        exact Nat.le_trans this (by decide)
    have hnm := fun (W : World) => refName_any (fGet l nm) W hnl
    have HO : Hid _ := others_oth l
    have HME : Hid (metric l = if fName (fGet l nm) = true then fGet l nm else []) := rfl
    have HL : Hid (l.length = n) := hx.1
    have HR : Hid (fPrint l = if metric l ≠ [] ∧ others l = [] then metric l else metric l ++ [123] ++ inner (others l) ++ [125]) := by show _ = _; unfold fPrint; rw [if_pos hil]
    have hml : (fGet l nm).length ≤ 30 := by
      by_cases h : fGet l nm = []
      · rw [h]; simp
      · exact (hsz _ (get_mem h)).2
    have hle : ∀ j, j ≤ n → (inner (oth (fName (fGet l nm)) (l.take j))).length ≤ 672 := fun j hj => by
      refine Nat.le_trans (inner_le _ fun p hp => hsz p (oth_mem hp)) ?_
      have := oth_le (fName (fGet l nm)) l j
      omega
    have hne : fName (fGet l nm) = true → fGet l nm ≠ [] := fun h e => by rw [e] at h; cases h
    rw [hil] at his
    obtain ⟨_, hcell⟩ := id hx
    clear hil hi' hsz hnl hf
    generalize fGet l nm = g at *
    obtain ⟨mt, hmt⟩ : ∃ b, b = fName g := ⟨_, rfl⟩
    rw [← hmt] at hnm HO hle HME hne
    clear hmt
    go_enter Tryz.func24, Tryz.ntmps24
    go_wp2_with fail
    refine his.mono ?_
    rintro e w1 ⟨rfl, hb1⟩
    go_wp2_with fail
    refine (hgt _ hb1).mono ?_
    rintro e w' ⟨rfl, rfl⟩
    obtain ⟨M, hMd⟩ : ∃ M, M = metric l := ⟨_, rfl⟩
    rw [← hMd] at HR HME
    cases mt with
    | true =>
      have hMg : g = M := by rw [HME.out, if_pos rfl]
      subst hMg
      have hMe : (g == []) = false := by simpa using hne rfl
      clear HME hne hMd his hgt
      go_wp2_with fail
      refine (hnm _).mono ?_
      rintro e w' ⟨rfl, rfl⟩
      go_wp2_with fail
      go_loopw [6, 5, 4] (fun i u s wr => ∃ (j : Nat) (t : Str), j ≤ n ∧ i = .int .i64 j ∧ u = .int .i64 ((oth true (l.take j)).length : Nat) ∧ s = tx t ∧ Hid (t = inner (oth true (l.take j))) ∧ Below w.heap.size w wr) (fun i _ _ _ => n - (intOf i).toNat)
      case atStart => exact ⟨0, [], by omega, rfl, rfl, rfl, rfl, hb1⟩
      case round =>
        obtain ⟨j, t, hj, rfl, rfl, rfl, HT, hb⟩ := hrel
        have htl : t.length ≤ 672 := by rw [HT.out]; exact hle j hj
        have hol := oth_le true l j
        by_cases hlt : j < n
        · obtain ⟨b1, o1, rfl, h1⟩ := hcell (by omega)
          obtain ⟨c10, c11⟩ := h1 j hlt
          have m0 : ∀ W, Below wr.heap.size wr W → W.cell? ⟨b1, o1 + j * 2, none⟩ = some (tx (l.getD j ([], [])).1) := fun W hW => ((Below.chain hb hW).cell (p := ⟨b1, o1 + j * 2, none⟩) (World.block_lt_of_cell? _ _ c10)).trans c10
          have m1 : ∀ W, Below wr.heap.size wr W → W.cell? ⟨b1, o1 + j * 2 + 1, none⟩ = some (tx (l.getD j ([], [])).2) := fun W hW => ((Below.chain hb hW).cell (p := ⟨b1, o1 + j * 2 + 1, none⟩) (World.block_lt_of_cell? _ _ c11)).trans c11
          have k0 := m0 wr (Below.refl _ _)
          have HI : Hid _ := oth_in (mt := true) (l := l) (j := j) (by rw [HL.out]; exact hlt)
          have HX : Hid _ := oth_out (mt := true) (l := l) (j := j) (by rw [HL.out]; exact hlt)
          have hpl := hat j hlt
          clear h1 hcell c10 c11 hat HR HO hx
          generalize l.getD j ([], []) = p at *
          obtain ⟨p1, p2⟩ := p
          dsimp only at *
          have hqt := fun (W : World) => refQuote_any p2 W (by omega)
          have hql : ([34] ++ esc p2 ++ [34]).length ≤ 62 := by have := esc_len p2; simp; omega
          have HP : Hid (inner [(p1, p2)] = p1 ++ [61] ++ ([34] ++ esc p2 ++ [34])) := by show _ = _; rw [inner_one]; unfold pairT; simp
          have HP2 : Hid (oth true (l.take j) ≠ [] → inner (oth true (l.take j) ++ [(p1, p2)]) = inner (oth true (l.take j)) ++ [44] ++ (p1 ++ [61] ++ ([34] ++ esc p2 ++ [34]))) := fun h => by rw [inner_snoc _ _ h]; unfold pairT; simp
          obtain ⟨qv, hqv⟩ : ∃ q, q = [34] ++ esc p2 ++ [34] := ⟨_, rfl⟩
          rw [← hqv] at hqt hql HP HP2
          clear hqv
          by_cases hpn : p1 = nm
          · have hpn' : (p1 == [95, 95, 110, 97, 109, 101, 95, 95]) = true := by simpa [nm] using hpn
            have HJ : Hid _ := HX.out hpn rfl
            clear hpn HI HX HP HP2 hqt
            generalize hN0 : (oth true (l.take j)).length = N at *
            have HN0 : Hid _ := hN0
            clear hN0
            go_wp2
            go_roundw
            case rel => exact ⟨j + 1, t, by omega, by go_num, by rw [HJ.out, HN0.out], rfl, by rw [HJ.out]; exact HT, hb⟩
            case measure => simp [intOf]; omega
          · have hpn' : (p1 == [95, 95, 110, 97, 109, 101, 95, 95]) = false := by simpa [nm] using hpn
            have HJ : Hid _ := HI.out (fun h => hpn h.1)
            clear hpn HI HX
            by_cases hz : oth true (l.take j) = []
            · have hz0 : ((oth true (l.take j)).length : Int) = 0 := by rw [hz]; rfl
              have hz1 : ¬ (0 : Int) < ((oth true (l.take j)).length : Nat) := by omega
              have hlen : (oth true (l.take (j + 1))).length = (oth true (l.take j)).length + 1 := by rw [HJ.out]; simp
              have hte : t = [] := by rw [HT.out, hz]; rfl
              obtain ⟨t1, ht1⟩ : ∃ q, q = t ++ p1 := ⟨_, rfl⟩
              have H1 : Hid _ := ht1
              obtain ⟨t2, ht2⟩ : ∃ q, q = t1 ++ [61] := ⟨_, rfl⟩
              have H2 : Hid _ := ht2
              obtain ⟨t3, ht3⟩ : ∃ q, q = t2 ++ qv := ⟨_, rfl⟩
              have H3 : Hid _ := ht3
              have g1 : t1.length = t.length + p1.length := by rw [ht1]; simp
              have g2 : t2.length = t1.length + 1 := by rw [ht2]; simp
              have HN : Hid (t3 = inner (oth true (l.take (j + 1)))) := by show _ = _; rw [HJ.out, hz, List.nil_append, HP.out, ht3, ht2, ht1, hte]; rfl
              have HLN : Hid _ := hlen
              have G1 : t1.length ≤ 700 := by omega
              have G2 : t2.length ≤ 701 := by omega
              clear hz hz0 hlen hte ht1 ht2 ht3 g1 g2 HT HP HP2 HJ
              generalize (oth true (l.take j)).length = N at *
              go_wp2_with fail
              have C0 : Below wr.heap.size wr wr.drew := (Below.refl _ _).drew
              refine wp_region_noPanic ?_
              refine wp_region_held_drew (S := fun W => Below wr.heap.size wr W) (by kernel_rfl) ?_ (fun _ => ?_)
              · exact C0
              generalize wr.drew = wd at *
              refine take_at 0 (some 37) (tx t) rfl rfl (by kernel_rfl) (by kernel_rfl) (by kernel_rfl) (fun _ _ _ h => h) (by rfl) (fun W hSw => by go_simp) C0 ?_
              simp only [Act.put, List.setIfInBounds_toArray, List.set_cons_zero, List.set_cons_succ]
              refine take_at 1 (some 38) (.slice (some ⟨b1, o1, none⟩) n c) rfl rfl (by kernel_rfl) (by kernel_rfl) (by kernel_rfl) (fun _ _ _ h => h) (by rfl) (fun W hSw => by go_simp) C0 ?_
              simp only [Act.put, List.setIfInBounds_toArray, List.set_cons_zero, List.set_cons_succ]
              refine take_at 2 (some 39) (.int .i64 j) rfl rfl (by kernel_rfl) (by kernel_rfl) (by kernel_rfl) (fun _ _ _ h => h) (by rfl) (fun W hSw => by go_simp) C0 ?_
              simp only [Act.put, List.setIfInBounds_toArray, List.set_cons_zero, List.set_cons_succ]
              refine take_at 3 (some 40) (.pointer (some ⟨b1, o1 + j * 2, none⟩)) rfl rfl (by kernel_rfl) (by kernel_rfl) (by kernel_rfl) (fun _ _ _ h => h) (by rfl) (fun W hSw => by go_simp) C0 ?_
              simp only [Act.put, List.setIfInBounds_toArray, List.set_cons_zero, List.set_cons_succ]
              refine take_at 4 (some 41) (.pointer (some ⟨b1, o1 + j * 2, none⟩)) rfl rfl (by kernel_rfl) (by kernel_rfl) (by kernel_rfl) (fun _ _ _ h => h) (by rfl) (fun W hSw => by go_simp) C0 ?_
              simp only [Act.put, List.setIfInBounds_toArray, List.set_cons_zero, List.set_cons_succ]
              refine take_at 5 (some 42) (tx p1) rfl rfl (by kernel_rfl) (by kernel_rfl) (by kernel_rfl) (fun _ _ _ h => h) (by rfl) (fun W hSw => by have c0 := m0 W hSw; go_simp) C0 ?_
              simp only [Act.put, List.setIfInBounds_toArray, List.set_cons_zero, List.set_cons_succ]
              refine take_at 6 (some 43) (tx t1) rfl rfl (by kernel_rfl) (by kernel_rfl) (by kernel_rfl) (fun _ _ _ h => h) (by rfl) (fun W hSw => exec_add rfl t p1 rfl rfl (by omega) t1 H1.out W) C0 ?_
              simp only [Act.put, List.setIfInBounds_toArray, List.set_cons_zero, List.set_cons_succ]
              refine take_at 7 (some 44) (tx t2) rfl rfl (by kernel_rfl) (by kernel_rfl) (by kernel_rfl) (fun _ _ _ h => h) (by rfl) (fun W hSw => exec_add rfl t1 [61] rfl rfl (by simp; omega) t2 H2.out W) C0 ?_
              simp only [Act.put, List.setIfInBounds_toArray, List.set_cons_zero, List.set_cons_succ]
              refine take_at 8 (some 45) (.slice (some ⟨b1, o1, none⟩) n c) rfl rfl (by kernel_rfl) (by kernel_rfl) (by kernel_rfl) (fun _ _ _ h => h) (by rfl) (fun W hSw => by go_simp) C0 ?_
              simp only [Act.put, List.setIfInBounds_toArray, List.set_cons_zero, List.set_cons_succ]
              refine take_at 9 (some 46) (.int .i64 j) rfl rfl (by kernel_rfl) (by kernel_rfl) (by kernel_rfl) (fun _ _ _ h => h) (by rfl) (fun W hSw => by go_simp) C0 ?_
              simp only [Act.put, List.setIfInBounds_toArray, List.set_cons_zero, List.set_cons_succ]
              refine take_at 10 (some 47) (.pointer (some ⟨b1, o1 + j * 2, none⟩)) rfl rfl (by kernel_rfl) (by kernel_rfl) (by kernel_rfl) (fun _ _ _ h => h) (by rfl) (fun W hSw => by go_simp) C0 ?_
              simp only [Act.put, List.setIfInBounds_toArray, List.set_cons_zero, List.set_cons_succ]
              refine take_at 11 (some 48) (.pointer (some ⟨b1, o1 + j * 2 + 1, none⟩)) rfl rfl (by kernel_rfl) (by kernel_rfl) (by kernel_rfl) (fun _ _ _ h => h) (by rfl) (fun W hSw => by go_simp) C0 ?_
              simp only [Act.put, List.setIfInBounds_toArray, List.set_cons_zero, List.set_cons_succ]
              refine take_at 12 (some 49) (tx p2) rfl rfl (by kernel_rfl) (by kernel_rfl) (by kernel_rfl) (fun _ _ _ h => h) (by rfl) (fun W hSw => by have c1 := m1 W hSw; go_simp) C0 ?_
              simp only [Act.put, List.setIfInBounds_toArray, List.set_cons_zero, List.set_cons_succ]
              refine wpAnyH_ready (rs := [13]) (by kernel_rfl) (by simp) ?_
              refine AllReadyH.cons rfl (fun K hK => ?_) AllReadyH.nil
              go_simp
              refine (hqt _).mono ?_
              rintro e w8 ⟨rfl, rfl⟩
              refine hK.out _ _ ?_ (fun _ => ?_)
              · exact C0
              clear hK K
              refine take_at 14 (some 51) (tx t3) rfl rfl (by kernel_rfl) (by kernel_rfl) (by kernel_rfl) (fun _ _ _ h => h) (by rfl) (fun W hSw => exec_add rfl t2 qv rfl rfl (by omega) t3 H3.out W) C0 ?_
              simp only [Act.put, List.setIfInBounds_toArray, List.set_cons_zero, List.set_cons_succ]
              refine take_at 15 (some 4) (tx t3) rfl rfl (by kernel_rfl) (by kernel_rfl) (by kernel_rfl) (fun _ _ _ h => h) (by rfl) (fun W hSw => by go_simp) C0 ?_
              simp only [Act.put, List.setIfInBounds_toArray, List.set_cons_zero, List.set_cons_succ]
              refine wpAnyH_done (by kernel_rfl) ?_ _
              refine NoPanic.normal ?_
              go_wp2
              go_roundw
              case rel => exact ⟨j + 1, t3, by omega, by go_num, by rw [HLN.out]; go_num, rfl, HN, Below.chain hb C0⟩
              case measure => simp [intOf]; omega
            · have hz1 : (0 : Int) < ((oth true (l.take j)).length : Nat) := by have := List.length_pos_iff.2 hz; omega
              have hlen : (oth true (l.take (j + 1))).length = (oth true (l.take j)).length + 1 := by rw [HJ.out]; simp
              obtain ⟨tc, htc⟩ : ∃ q, q = t ++ [44] := ⟨_, rfl⟩
              have a1 : (⟨t.toArray⟩ : ByteArray) ++ ⟨#[44]⟩ = ⟨tc.toArray⟩ := by rw [htc]; exact ba_append t [44]
              obtain ⟨t1, ht1⟩ : ∃ q, q = tc ++ p1 := ⟨_, rfl⟩
              have H1 : Hid _ := ht1
              obtain ⟨t2, ht2⟩ : ∃ q, q = t1 ++ [61] := ⟨_, rfl⟩
              have H2 : Hid _ := ht2
              obtain ⟨t3, ht3⟩ : ∃ q, q = t2 ++ qv := ⟨_, rfl⟩
              have H3 : Hid _ := ht3
              have g0 : tc.length = t.length + 1 := by rw [htc]; simp
              have g1 : t1.length = tc.length + p1.length := by rw [ht1]; simp
              have g2 : t2.length = t1.length + 1 := by rw [ht2]; simp
              have HN : Hid (t3 = inner (oth true (l.take (j + 1)))) := by show _ = _; rw [HJ.out, HP2.out hz, ht3, ht2, ht1, htc, HT.out]; simp
              have HLN : Hid _ := hlen
              have G0 : tc.length ≤ 680 := by omega
              have G1 : t1.length ≤ 700 := by omega
              have G2 : t2.length ≤ 701 := by omega
              clear hz hlen htc ht1 ht2 ht3 g0 g1 g2 HT HP HP2 HJ
              generalize (oth true (l.take j)).length = N at *
              go_wp2_with fail
              have C0 : Below wr.heap.size wr wr.drew := (Below.refl _ _).drew
              refine wp_region_noPanic ?_
              refine wp_region_held_drew (S := fun W => Below wr.heap.size wr W) (by kernel_rfl) ?_ (fun _ => ?_)
              · exact C0
              generalize wr.drew = wd at *
              refine take_at 0 (some 37) (tx tc) rfl rfl (by kernel_rfl) (by kernel_rfl) (by kernel_rfl) (fun _ _ _ h => h) (by rfl) (fun W hSw => by go_simp) C0 ?_
              simp only [Act.put, List.setIfInBounds_toArray, List.set_cons_zero, List.set_cons_succ]
              refine take_at 1 (some 38) (.slice (some ⟨b1, o1, none⟩) n c) rfl rfl (by kernel_rfl) (by kernel_rfl) (by kernel_rfl) (fun _ _ _ h => h) (by rfl) (fun W hSw => by go_simp) C0 ?_
              simp only [Act.put, List.setIfInBounds_toArray, List.set_cons_zero, List.set_cons_succ]
              refine take_at 2 (some 39) (.int .i64 j) rfl rfl (by kernel_rfl) (by kernel_rfl) (by kernel_rfl) (fun _ _ _ h => h) (by rfl) (fun W hSw => by go_simp) C0 ?_
              simp only [Act.put, List.setIfInBounds_toArray, List.set_cons_zero, List.set_cons_succ]
              refine take_at 3 (some 40) (.pointer (some ⟨b1, o1 + j * 2, none⟩)) rfl rfl (by kernel_rfl) (by kernel_rfl) (by kernel_rfl) (fun _ _ _ h => h) (by rfl) (fun W hSw => by go_simp) C0 ?_
              simp only [Act.put, List.setIfInBounds_toArray, List.set_cons_zero, List.set_cons_succ]
              refine take_at 4 (some 41) (.pointer (some ⟨b1, o1 + j * 2, none⟩)) rfl rfl (by kernel_rfl) (by kernel_rfl) (by kernel_rfl) (fun _ _ _ h => h) (by rfl) (fun W hSw => by go_simp) C0 ?_
              simp only [Act.put, List.setIfInBounds_toArray, List.set_cons_zero, List.set_cons_succ]
              refine take_at 5 (some 42) (tx p1) rfl rfl (by kernel_rfl) (by kernel_rfl) (by kernel_rfl) (fun _ _ _ h => h) (by rfl) (fun W hSw => by have c0 := m0 W hSw; go_simp) C0 ?_
              simp only [Act.put, List.setIfInBounds_toArray, List.set_cons_zero, List.set_cons_succ]
              refine take_at 6 (some 43) (tx t1) rfl rfl (by kernel_rfl) (by kernel_rfl) (by kernel_rfl) (fun _ _ _ h => h) (by rfl) (fun W hSw => exec_add rfl tc p1 rfl rfl (by omega) t1 H1.out W) C0 ?_
              simp only [Act.put, List.setIfInBounds_toArray, List.set_cons_zero, List.set_cons_succ]
              refine take_at 7 (some 44) (tx t2) rfl rfl (by kernel_rfl) (by kernel_rfl) (by kernel_rfl) (fun _ _ _ h => h) (by rfl) (fun W hSw => exec_add rfl t1 [61] rfl rfl (by simp; omega) t2 H2.out W) C0 ?_
              simp only [Act.put, List.setIfInBounds_toArray, List.set_cons_zero, List.set_cons_succ]
              refine take_at 8 (some 45) (.slice (some ⟨b1, o1, none⟩) n c) rfl rfl (by kernel_rfl) (by kernel_rfl) (by kernel_rfl) (fun _ _ _ h => h) (by rfl) (fun W hSw => by go_simp) C0 ?_
              simp only [Act.put, List.setIfInBounds_toArray, List.set_cons_zero, List.set_cons_succ]
              refine take_at 9 (some 46) (.int .i64 j) rfl rfl (by kernel_rfl) (by kernel_rfl) (by kernel_rfl) (fun _ _ _ h => h) (by rfl) (fun W hSw => by go_simp) C0 ?_
              simp only [Act.put, List.setIfInBounds_toArray, List.set_cons_zero, List.set_cons_succ]
              refine take_at 10 (some 47) (.pointer (some ⟨b1, o1 + j * 2, none⟩)) rfl rfl (by kernel_rfl) (by kernel_rfl) (by kernel_rfl) (fun _ _ _ h => h) (by rfl) (fun W hSw => by go_simp) C0 ?_
              simp only [Act.put, List.setIfInBounds_toArray, List.set_cons_zero, List.set_cons_succ]
              refine take_at 11 (some 48) (.pointer (some ⟨b1, o1 + j * 2 + 1, none⟩)) rfl rfl (by kernel_rfl) (by kernel_rfl) (by kernel_rfl) (fun _ _ _ h => h) (by rfl) (fun W hSw => by go_simp) C0 ?_
              simp only [Act.put, List.setIfInBounds_toArray, List.set_cons_zero, List.set_cons_succ]
              refine take_at 12 (some 49) (tx p2) rfl rfl (by kernel_rfl) (by kernel_rfl) (by kernel_rfl) (fun _ _ _ h => h) (by rfl) (fun W hSw => by have c1 := m1 W hSw; go_simp) C0 ?_
              simp only [Act.put, List.setIfInBounds_toArray, List.set_cons_zero, List.set_cons_succ]
              refine wpAnyH_ready (rs := [13]) (by kernel_rfl) (by simp) ?_
              refine AllReadyH.cons rfl (fun K hK => ?_) AllReadyH.nil
              go_simp
              refine (hqt _).mono ?_
              rintro e w8 ⟨rfl, rfl⟩
              refine hK.out _ _ ?_ (fun _ => ?_)
              · exact C0
              clear hK K
              refine take_at 14 (some 51) (tx t3) rfl rfl (by kernel_rfl) (by kernel_rfl) (by kernel_rfl) (fun _ _ _ h => h) (by rfl) (fun W hSw => exec_add rfl t2 qv rfl rfl (by omega) t3 H3.out W) C0 ?_
              simp only [Act.put, List.setIfInBounds_toArray, List.set_cons_zero, List.set_cons_succ]
              refine take_at 15 (some 4) (tx t3) rfl rfl (by kernel_rfl) (by kernel_rfl) (by kernel_rfl) (fun _ _ _ h => h) (by rfl) (fun W hSw => by go_simp) C0 ?_
              simp only [Act.put, List.setIfInBounds_toArray, List.set_cons_zero, List.set_cons_succ]
              refine wpAnyH_done (by kernel_rfl) ?_ _
              refine NoPanic.normal ?_
              go_wp2
              go_roundw
              case rel => exact ⟨j + 1, t3, by omega, by go_num, by rw [HLN.out]; go_num, rfl, HN, Below.chain hb C0⟩
              case measure => simp [intOf]; omega
        · have HTL : Hid (oth true (l.take j) = others l) := by show _ = _; rw [List.take_of_length_le (by rw [HL.out]; omega), HO.out]
          rw [HTL.out] at HT hol ⊢
          clear HTL HO hcell hat hle
          obtain ⟨os, hos⟩ : ∃ q, q = others l := ⟨_, rfl⟩
          rw [← hos] at HT HR hol ⊢
          clear hos
          obtain ⟨ta, hta⟩ : ∃ q, q = [123] ++ t := ⟨_, rfl⟩
          obtain ⟨tb, htb⟩ : ∃ q, q = ta ++ [125] := ⟨_, rfl⟩
          have a1 : (⟨#[123]⟩ : ByteArray) ++ ⟨t.toArray⟩ = ⟨ta.toArray⟩ := by rw [hta]; exact ba_append [123] t
          have a2 : (⟨ta.toArray⟩ : ByteArray) ++ ⟨#[125]⟩ = ⟨tb.toArray⟩ := by rw [htb]; exact ba_append ta [125]
          have g1 : ta.length ≤ 680 := by rw [hta]; simp; omega
          have g2 : tb.length ≤ 690 := by rw [htb]; simp; omega
          have a3 : (⟨(g : Str).toArray⟩ : ByteArray) ++ ⟨tb.toArray⟩ = ⟨((g : Str) ++ tb).toArray⟩ := ba_append _ _
          have a4 : (⟨(g : Str).toArray⟩ : ByteArray) ++ ⟨t.toArray⟩ = ⟨((g : Str) ++ t).toArray⟩ := ba_append _ _
          have HF : Hid ((g : Str) ++ tb = g ++ [123] ++ inner os ++ [125]) := by show _ = _; rw [htb, hta, HT.out]; simp
          by_cases hoe : os = []
          · have ho0 : ¬ (0 : Int) < (os.length : Nat) := by rw [hoe]; simp
            have HE : Hid (fPrint l = g ++ t) := by show _ = _; rw [HR.out, if_pos ⟨by simpa using hMe, hoe⟩, HT.out, hoe]; simp [inner, Lib.join]
            clear HR HF hta htb HT hoe
            obtain ⟨r, hr⟩ : ∃ q, q = g ++ t := ⟨_, rfl⟩
            rw [← hr] at HE a4
            clear hr
            generalize os.length = N at *
            go_wp2_with fail
            go_ret
            exact ⟨by rw [HE.out]; rfl, hb⟩
          · have ho0 : (0 : Int) < (os.length : Nat) := by have := List.length_pos_iff.2 hoe; omega
            have HE : Hid (fPrint l = g ++ tb) := by show _ = _; rw [HR.out, if_neg (fun h => hoe h.2), HF.out]
            clear HR HF hta htb HT hoe
            obtain ⟨r, hr⟩ : ∃ q, q = g ++ tb := ⟨_, rfl⟩
            rw [← hr] at HE a3
            clear hr
            generalize os.length = N at *
            go_wp2_with fail
            go_ret
            exact ⟨by rw [HE.out]; rfl, hb⟩
    | false =>
      have hMg : M = [] := by rw [HME.out]; rfl
      subst hMg
      clear HME hne hMd his hgt
      go_wp2_with fail
      refine (hnm _).mono ?_
      rintro e w' ⟨rfl, rfl⟩
      go_wp2_with fail
      go_loopw [6, 5, 4] (fun i u s wr => ∃ (j : Nat) (t : Str), j ≤ n ∧ i = .int .i64 j ∧ u = .int .i64 ((oth false (l.take j)).length : Nat) ∧ s = tx t ∧ Hid (t = inner (oth false (l.take j))) ∧ Below w.heap.size w wr) (fun i _ _ _ => n - (intOf i).toNat)
      case atStart => exact ⟨0, [], by omega, rfl, rfl, rfl, rfl, hb1⟩
      case round =>
        obtain ⟨j, t, hj, rfl, rfl, rfl, HT, hb⟩ := hrel
        have htl : t.length ≤ 672 := by rw [HT.out]; exact hle j hj
        have hol := oth_le false l j
        by_cases hlt : j < n
        · obtain ⟨b1, o1, rfl, h1⟩ := hcell (by omega)
          obtain ⟨c10, c11⟩ := h1 j hlt
          have m0 : ∀ W, Below wr.heap.size wr W → W.cell? ⟨b1, o1 + j * 2, none⟩ = some (tx (l.getD j ([], [])).1) := fun W hW => ((Below.chain hb hW).cell (p := ⟨b1, o1 + j * 2, none⟩) (World.block_lt_of_cell? _ _ c10)).trans c10
          have m1 : ∀ W, Below wr.heap.size wr W → W.cell? ⟨b1, o1 + j * 2 + 1, none⟩ = some (tx (l.getD j ([], [])).2) := fun W hW => ((Below.chain hb hW).cell (p := ⟨b1, o1 + j * 2 + 1, none⟩) (World.block_lt_of_cell? _ _ c11)).trans c11
          have k0 := m0 wr (Below.refl _ _)
          have HI : Hid _ := oth_in (mt := false) (l := l) (j := j) (by rw [HL.out]; exact hlt)
          have HX : Hid _ := oth_out (mt := false) (l := l) (j := j) (by rw [HL.out]; exact hlt)
          have hpl := hat j hlt
          clear h1 hcell c10 c11 hat HR HO hx
          generalize l.getD j ([], []) = p at *
          obtain ⟨p1, p2⟩ := p
          dsimp only at *
          have hqt := fun (W : World) => refQuote_any p2 W (by omega)
          have hql : ([34] ++ esc p2 ++ [34]).length ≤ 62 := by have := esc_len p2; simp; omega
          have HP : Hid (inner [(p1, p2)] = p1 ++ [61] ++ ([34] ++ esc p2 ++ [34])) := by show _ = _; rw [inner_one]; unfold pairT; simp
          have HP2 : Hid (oth false (l.take j) ≠ [] → inner (oth false (l.take j) ++ [(p1, p2)]) = inner (oth false (l.take j)) ++ [44] ++ (p1 ++ [61] ++ ([34] ++ esc p2 ++ [34]))) := fun h => by rw [inner_snoc _ _ h]; unfold pairT; simp
          obtain ⟨qv, hqv⟩ : ∃ q, q = [34] ++ esc p2 ++ [34] := ⟨_, rfl⟩
          rw [← hqv] at hqt hql HP HP2
          clear hqv
          have HJ : Hid _ := HI.out (fun h => by cases h.2)
          clear HI HX
          by_cases hpn : p1 = nm
          · have hpn' : (p1 == [95, 95, 110, 97, 109, 101, 95, 95]) = true := by simpa [nm] using hpn
            clear hpn
            by_cases hz : oth false (l.take j) = []
            · have hz0 : ((oth false (l.take j)).length : Int) = 0 := by rw [hz]; rfl
              have hz1 : ¬ (0 : Int) < ((oth false (l.take j)).length : Nat) := by omega
              have hlen : (oth false (l.take (j + 1))).length = (oth false (l.take j)).length + 1 := by rw [HJ.out]; simp
              have hte : t = [] := by rw [HT.out, hz]; rfl
              obtain ⟨t1, ht1⟩ : ∃ q, q = t ++ p1 := ⟨_, rfl⟩
              have H1 : Hid _ := ht1
              obtain ⟨t2, ht2⟩ : ∃ q, q = t1 ++ [61] := ⟨_, rfl⟩
              have H2 : Hid _ := ht2
              obtain ⟨t3, ht3⟩ : ∃ q, q = t2 ++ qv := ⟨_, rfl⟩
              have H3 : Hid _ := ht3
              have g1 : t1.length = t.length + p1.length := by rw [ht1]; simp
              have g2 : t2.length = t1.length + 1 := by rw [ht2]; simp
              have HN : Hid (t3 = inner (oth false (l.take (j + 1)))) := by show _ = _; rw [HJ.out, hz, List.nil_append, HP.out, ht3, ht2, ht1, hte]; rfl
              have HLN : Hid _ := hlen
              have G1 : t1.length ≤ 700 := by omega
              have G2 : t2.length ≤ 701 := by omega
              clear hz hz0 hlen hte ht1 ht2 ht3 g1 g2 HT HP HP2 HJ
              generalize (oth false (l.take j)).length = N at *
              go_wp2_with fail
              have C0 : Below wr.heap.size wr wr.drew := (Below.refl _ _).drew
              refine wp_region_noPanic ?_
              refine wp_region_held_drew (S := fun W => Below wr.heap.size wr W) (by kernel_rfl) ?_ (fun _ => ?_)
              · exact C0
              generalize wr.drew = wd at *
              refine take_at 0 (some 37) (tx t) rfl rfl (by kernel_rfl) (by kernel_rfl) (by kernel_rfl) (fun _ _ _ h => h) (by rfl) (fun W hSw => by go_simp) C0 ?_
              simp only [Act.put, List.setIfInBounds_toArray, List.set_cons_zero, List.set_cons_succ]
              refine take_at 1 (some 38) (.slice (some ⟨b1, o1, none⟩) n c) rfl rfl (by kernel_rfl) (by kernel_rfl) (by kernel_rfl) (fun _ _ _ h => h) (by rfl) (fun W hSw => by go_simp) C0 ?_
              simp only [Act.put, List.setIfInBounds_toArray, List.set_cons_zero, List.set_cons_succ]
              refine take_at 2 (some 39) (.int .i64 j) rfl rfl (by kernel_rfl) (by kernel_rfl) (by kernel_rfl) (fun _ _ _ h => h) (by rfl) (fun W hSw => by go_simp) C0 ?_
              simp only [Act.put, List.setIfInBounds_toArray, List.set_cons_zero, List.set_cons_succ]
              refine take_at 3 (some 40) (.pointer (some ⟨b1, o1 + j * 2, none⟩)) rfl rfl (by kernel_rfl) (by kernel_rfl) (by kernel_rfl) (fun _ _ _ h => h) (by rfl) (fun W hSw => by go_simp) C0 ?_
              simp only [Act.put, List.setIfInBounds_toArray, List.set_cons_zero, List.set_cons_succ]
              refine take_at 4 (some 41) (.pointer (some ⟨b1, o1 + j * 2, none⟩)) rfl rfl (by kernel_rfl) (by kernel_rfl) (by kernel_rfl) (fun _ _ _ h => h) (by rfl) (fun W hSw => by go_simp) C0 ?_
              simp only [Act.put, List.setIfInBounds_toArray, List.set_cons_zero, List.set_cons_succ]
              refine take_at 5 (some 42) (tx p1) rfl rfl (by kernel_rfl) (by kernel_rfl) (by kernel_rfl) (fun _ _ _ h => h) (by rfl) (fun W hSw => by have c0 := m0 W hSw; go_simp) C0 ?_
              simp only [Act.put, List.setIfInBounds_toArray, List.set_cons_zero, List.set_cons_succ]
              refine take_at 6 (some 43) (tx t1) rfl rfl (by kernel_rfl) (by kernel_rfl) (by kernel_rfl) (fun _ _ _ h => h) (by rfl) (fun W hSw => exec_add rfl t p1 rfl rfl (by omega) t1 H1.out W) C0 ?_
              simp only [Act.put, List.setIfInBounds_toArray, List.set_cons_zero, List.set_cons_succ]
              refine take_at 7 (some 44) (tx t2) rfl rfl (by kernel_rfl) (by kernel_rfl) (by kernel_rfl) (fun _ _ _ h => h) (by rfl) (fun W hSw => exec_add rfl t1 [61] rfl rfl (by simp; omega) t2 H2.out W) C0 ?_
              simp only [Act.put, List.setIfInBounds_toArray, List.set_cons_zero, List.set_cons_succ]
              refine take_at 8 (some 45) (.slice (some ⟨b1, o1, none⟩) n c) rfl rfl (by kernel_rfl) (by kernel_rfl) (by kernel_rfl) (fun _ _ _ h => h) (by rfl) (fun W hSw => by go_simp) C0 ?_
              simp only [Act.put, List.setIfInBounds_toArray, List.set_cons_zero, List.set_cons_succ]
              refine take_at 9 (some 46) (.int .i64 j) rfl rfl (by kernel_rfl) (by kernel_rfl) (by kernel_rfl) (fun _ _ _ h => h) (by rfl) (fun W hSw => by go_simp) C0 ?_
              simp only [Act.put, List.setIfInBounds_toArray, List.set_cons_zero, List.set_cons_succ]
              refine take_at 10 (some 47) (.pointer (some ⟨b1, o1 + j * 2, none⟩)) rfl rfl (by kernel_rfl) (by kernel_rfl) (by kernel_rfl) (fun _ _ _ h => h) (by rfl) (fun W hSw => by go_simp) C0 ?_
              simp only [Act.put, List.setIfInBounds_toArray, List.set_cons_zero, List.set_cons_succ]
              refine take_at 11 (some 48) (.pointer (some ⟨b1, o1 + j * 2 + 1, none⟩)) rfl rfl (by kernel_rfl) (by kernel_rfl) (by kernel_rfl) (fun _ _ _ h => h) (by rfl) (fun W hSw => by go_simp) C0 ?_
              simp only [Act.put, List.setIfInBounds_toArray, List.set_cons_zero, List.set_cons_succ]
              refine take_at 12 (some 49) (tx p2) rfl rfl (by kernel_rfl) (by kernel_rfl) (by kernel_rfl) (fun _ _ _ h => h) (by rfl) (fun W hSw => by have c1 := m1 W hSw; go_simp) C0 ?_
              simp only [Act.put, List.setIfInBounds_toArray, List.set_cons_zero, List.set_cons_succ]
              refine wpAnyH_ready (rs := [13]) (by kernel_rfl) (by simp) ?_
              refine AllReadyH.cons rfl (fun K hK => ?_) AllReadyH.nil
              go_simp
              refine (hqt _).mono ?_
              rintro e w8 ⟨rfl, rfl⟩
              refine hK.out _ _ ?_ (fun _ => ?_)
              · exact C0
              clear hK K
              refine take_at 14 (some 51) (tx t3) rfl rfl (by kernel_rfl) (by kernel_rfl) (by kernel_rfl) (fun _ _ _ h => h) (by rfl) (fun W hSw => exec_add rfl t2 qv rfl rfl (by omega) t3 H3.out W) C0 ?_
              simp only [Act.put, List.setIfInBounds_toArray, List.set_cons_zero, List.set_cons_succ]
              refine take_at 15 (some 4) (tx t3) rfl rfl (by kernel_rfl) (by kernel_rfl) (by kernel_rfl) (fun _ _ _ h => h) (by rfl) (fun W hSw => by go_simp) C0 ?_
              simp only [Act.put, List.setIfInBounds_toArray, List.set_cons_zero, List.set_cons_succ]
              refine wpAnyH_done (by kernel_rfl) ?_ _
              refine NoPanic.normal ?_
              go_wp2
              go_roundw
              case rel => exact ⟨j + 1, t3, by omega, by go_num, by rw [HLN.out]; go_num, rfl, HN, Below.chain hb C0⟩
              case measure => simp [intOf]; omega
            · have hz1 : (0 : Int) < ((oth false (l.take j)).length : Nat) := by have := List.length_pos_iff.2 hz; omega
              have hlen : (oth false (l.take (j + 1))).length = (oth false (l.take j)).length + 1 := by rw [HJ.out]; simp
              obtain ⟨tc, htc⟩ : ∃ q, q = t ++ [44] := ⟨_, rfl⟩
              have a1 : (⟨t.toArray⟩ : ByteArray) ++ ⟨#[44]⟩ = ⟨tc.toArray⟩ := by rw [htc]; exact ba_append t [44]
              obtain ⟨t1, ht1⟩ : ∃ q, q = tc ++ p1 := ⟨_, rfl⟩
              have H1 : Hid _ := ht1
              obtain ⟨t2, ht2⟩ : ∃ q, q = t1 ++ [61] := ⟨_, rfl⟩
              have H2 : Hid _ := ht2
              obtain ⟨t3, ht3⟩ : ∃ q, q = t2 ++ qv := ⟨_, rfl⟩
              have H3 : Hid _ := ht3
              have g0 : tc.length = t.length + 1 := by rw [htc]; simp
              have g1 : t1.length = tc.length + p1.length := by rw [ht1]; simp
              have g2 : t2.length = t1.length + 1 := by rw [ht2]; simp
              have HN : Hid (t3 = inner (oth false (l.take (j + 1)))) := by show _ = _; rw [HJ.out, HP2.out hz, ht3, ht2, ht1, htc, HT.out]; simp
              have HLN : Hid _ := hlen
              have G0 : tc.length ≤ 680 := by omega
              have G1 : t1.length ≤ 700 := by omega
              have G2 : t2.length ≤ 701 := by omega
              clear hz hlen htc ht1 ht2 ht3 g0 g1 g2 HT HP HP2 HJ
              generalize (oth false (l.take j)).length = N at *
              go_wp2_with fail
              have C0 : Below wr.heap.size wr wr.drew := (Below.refl _ _).drew
              refine wp_region_noPanic ?_
              refine wp_region_held_drew (S := fun W => Below wr.heap.size wr W) (by kernel_rfl) ?_ (fun _ => ?_)
              · exact C0
              generalize wr.drew = wd at *
              refine take_at 0 (some 37) (tx tc) rfl rfl (by kernel_rfl) (by kernel_rfl) (by kernel_rfl) (fun _ _ _ h => h) (by rfl) (fun W hSw => by go_simp) C0 ?_
              simp only [Act.put, List.setIfInBounds_toArray, List.set_cons_zero, List.set_cons_succ]
              refine take_at 1 (some 38) (.slice (some ⟨b1, o1, none⟩) n c) rfl rfl (by kernel_rfl) (by kernel_rfl) (by kernel_rfl) (fun _ _ _ h => h) (by rfl) (fun W hSw => by go_simp) C0 ?_
              simp only [Act.put, List.setIfInBounds_toArray, List.set_cons_zero, List.set_cons_succ]
              refine take_at 2 (some 39) (.int .i64 j) rfl rfl (by kernel_rfl) (by kernel_rfl) (by kernel_rfl) (fun _ _ _ h => h) (by rfl) (fun W hSw => by go_simp) C0 ?_
              simp only [Act.put, List.setIfInBounds_toArray, List.set_cons_zero, List.set_cons_succ]
              refine take_at 3 (some 40) (.pointer (some ⟨b1, o1 + j * 2, none⟩)) rfl rfl (by kernel_rfl) (by kernel_rfl) (by kernel_rfl) (fun _ _ _ h => h) (by rfl) (fun W hSw => by go_simp) C0 ?_
              simp only [Act.put, List.setIfInBounds_toArray, List.set_cons_zero, List.set_cons_succ]
              refine take_at 4 (some 41) (.pointer (some ⟨b1, o1 + j * 2, none⟩)) rfl rfl (by kernel_rfl) (by kernel_rfl) (by kernel_rfl) (fun _ _ _ h => h) (by rfl) (fun W hSw => by go_simp) C0 ?_
              simp only [Act.put, List.setIfInBounds_toArray, List.set_cons_zero, List.set_cons_succ]
              refine take_at 5 (some 42) (tx p1) rfl rfl (by kernel_rfl) (by kernel_rfl) (by kernel_rfl) (fun _ _ _ h => h) (by rfl) (fun W hSw => by have c0 := m0 W hSw; go_simp) C0 ?_
              simp only [Act.put, List.setIfInBounds_toArray, List.set_cons_zero, List.set_cons_succ]
              refine take_at 6 (some 43) (tx t1) rfl rfl (by kernel_rfl) (by kernel_rfl) (by kernel_rfl) (fun _ _ _ h => h) (by rfl) (fun W hSw => exec_add rfl tc p1 rfl rfl (by omega) t1 H1.out W) C0 ?_
              simp only [Act.put, List.setIfInBounds_toArray, List.set_cons_zero, List.set_cons_succ]
              refine take_at 7 (some 44) (tx t2) rfl rfl (by kernel_rfl) (by kernel_rfl) (by kernel_rfl) (fun _ _ _ h => h) (by rfl) (fun W hSw => exec_add rfl t1 [61] rfl rfl (by simp; omega) t2 H2.out W) C0 ?_
              simp only [Act.put, List.setIfInBounds_toArray, List.set_cons_zero, List.set_cons_succ]
              refine take_at 8 (some 45) (.slice (some ⟨b1, o1, none⟩) n c) rfl rfl (by kernel_rfl) (by kernel_rfl) (by kernel_rfl) (fun _ _ _ h => h) (by rfl) (fun W hSw => by go_simp) C0 ?_
              simp only [Act.put, List.setIfInBounds_toArray, List.set_cons_zero, List.set_cons_succ]
              refine take_at 9 (some 46) (.int .i64 j) rfl rfl (by kernel_rfl) (by kernel_rfl) (by kernel_rfl) (fun _ _ _ h => h) (by rfl) (fun W hSw => by go_simp) C0 ?_
              simp only [Act.put, List.setIfInBounds_toArray, List.set_cons_zero, List.set_cons_succ]
              refine take_at 10 (some 47) (.pointer (some ⟨b1, o1 + j * 2, none⟩)) rfl rfl (by kernel_rfl) (by kernel_rfl) (by kernel_rfl) (fun _ _ _ h => h) (by rfl) (fun W hSw => by go_simp) C0 ?_
              simp only [Act.put, List.setIfInBounds_toArray, List.set_cons_zero, List.set_cons_succ]
              refine take_at 11 (some 48) (.pointer (some ⟨b1, o1 + j * 2 + 1, none⟩)) rfl rfl (by kernel_rfl) (by kernel_rfl) (by kernel_rfl) (fun _ _ _ h => h) (by rfl) (fun W hSw => by go_simp) C0 ?_
              simp only [Act.put, List.setIfInBounds_toArray, List.set_cons_zero, List.set_cons_succ]
              refine take_at 12 (some 49) (tx p2) rfl rfl (by kernel_rfl) (by kernel_rfl) (by kernel_rfl) (fun _ _ _ h => h) (by rfl) (fun W hSw => by have c1 := m1 W hSw; go_simp) C0 ?_
              simp only [Act.put, List.setIfInBounds_toArray, List.set_cons_zero, List.set_cons_succ]
              refine wpAnyH_ready (rs := [13]) (by kernel_rfl) (by simp) ?_
              refine AllReadyH.cons rfl (fun K hK => ?_) AllReadyH.nil
              go_simp
              refine (hqt _).mono ?_
              rintro e w8 ⟨rfl, rfl⟩
              refine hK.out _ _ ?_ (fun _ => ?_)
              · exact C0
              clear hK K
              refine take_at 14 (some 51) (tx t3) rfl rfl (by kernel_rfl) (by kernel_rfl) (by kernel_rfl) (fun _ _ _ h => h) (by rfl) (fun W hSw => exec_add rfl t2 qv rfl rfl (by omega) t3 H3.out W) C0 ?_
              simp only [Act.put, List.setIfInBounds_toArray, List.set_cons_zero, List.set_cons_succ]
              refine take_at 15 (some 4) (tx t3) rfl rfl (by kernel_rfl) (by kernel_rfl) (by kernel_rfl) (fun _ _ _ h => h) (by rfl) (fun W hSw => by go_simp) C0 ?_
              simp only [Act.put, List.setIfInBounds_toArray, List.set_cons_zero, List.set_cons_succ]
              refine wpAnyH_done (by kernel_rfl) ?_ _
              refine NoPanic.normal ?_
              go_wp2
              go_roundw
              case rel => exact ⟨j + 1, t3, by omega, by go_num, by rw [HLN.out]; go_num, rfl, HN, Below.chain hb C0⟩
              case measure => simp [intOf]; omega
          · have hpn' : (p1 == [95, 95, 110, 97, 109, 101, 95, 95]) = false := by simpa [nm] using hpn
            clear hpn
            by_cases hz : oth false (l.take j) = []
            · have hz0 : ((oth false (l.take j)).length : Int) = 0 := by rw [hz]; rfl
              have hz1 : ¬ (0 : Int) < ((oth false (l.take j)).length : Nat) := by omega
              have hlen : (oth false (l.take (j + 1))).length = (oth false (l.take j)).length + 1 := by rw [HJ.out]; simp
              have hte : t = [] := by rw [HT.out, hz]; rfl
              obtain ⟨t1, ht1⟩ : ∃ q, q = t ++ p1 := ⟨_, rfl⟩
              have H1 : Hid _ := ht1
              obtain ⟨t2, ht2⟩ : ∃ q, q = t1 ++ [61] := ⟨_, rfl⟩
              have H2 : Hid _ := ht2
              obtain ⟨t3, ht3⟩ : ∃ q, q = t2 ++ qv := ⟨_, rfl⟩
              have H3 : Hid _ := ht3
              have g1 : t1.length = t.length + p1.length := by rw [ht1]; simp
              have g2 : t2.length = t1.length + 1 := by rw [ht2]; simp
              have HN : Hid (t3 = inner (oth false (l.take (j + 1)))) := by show _ = _; rw [HJ.out, hz, List.nil_append, HP.out, ht3, ht2, ht1, hte]; rfl
              have HLN : Hid _ := hlen
              have G1 : t1.length ≤ 700 := by omega
              have G2 : t2.length ≤ 701 := by omega
              clear hz hz0 hlen hte ht1 ht2 ht3 g1 g2 HT HP HP2 HJ
              generalize (oth false (l.take j)).length = N at *
              go_wp2_with fail
              have C0 : Below wr.heap.size wr wr.drew := (Below.refl _ _).drew
              refine wp_region_noPanic ?_
              refine wp_region_held_drew (S := fun W => Below wr.heap.size wr W) (by kernel_rfl) ?_ (fun _ => ?_)
              · exact C0
              generalize wr.drew = wd at *
              refine take_at 0 (some 37) (tx t) rfl rfl (by kernel_rfl) (by kernel_rfl) (by kernel_rfl) (fun _ _ _ h => h) (by rfl) (fun W hSw => by go_simp) C0 ?_
              simp only [Act.put, List.setIfInBounds_toArray, List.set_cons_zero, List.set_cons_succ]
              refine take_at 1 (some 38) (.slice (some ⟨b1, o1, none⟩) n c) rfl rfl (by kernel_rfl) (by kernel_rfl) (by kernel_rfl) (fun _ _ _ h => h) (by rfl) (fun W hSw => by go_simp) C0 ?_
              simp only [Act.put, List.setIfInBounds_toArray, List.set_cons_zero, List.set_cons_succ]
              refine take_at 2 (some 39) (.int .i64 j) rfl rfl (by kernel_rfl) (by kernel_rfl) (by kernel_rfl) (fun _ _ _ h => h) (by rfl) (fun W hSw => by go_simp) C0 ?_
              simp only [Act.put, List.setIfInBounds_toArray, List.set_cons_zero, List.set_cons_succ]
              refine take_at 3 (some 40) (.pointer (some ⟨b1, o1 + j * 2, none⟩)) rfl rfl (by kernel_rfl) (by kernel_rfl) (by kernel_rfl) (fun _ _ _ h => h) (by rfl) (fun W hSw => by go_simp) C0 ?_
              simp only [Act.put, List.setIfInBounds_toArray, List.set_cons_zero, List.set_cons_succ]
              refine take_at 4 (some 41) (.pointer (some ⟨b1, o1 + j * 2, none⟩)) rfl rfl (by kernel_rfl) (by kernel_rfl) (by kernel_rfl) (fun _ _ _ h => h) (by rfl) (fun W hSw => by go_simp) C0 ?_
              simp only [Act.put, List.setIfInBounds_toArray, List.set_cons_zero, List.set_cons_succ]
              refine take_at 5 (some 42) (tx p1) rfl rfl (by kernel_rfl) (by kernel_rfl) (by kernel_rfl) (fun _ _ _ h => h) (by rfl) (fun W hSw => by have c0 := m0 W hSw; go_simp) C0 ?_
              simp only [Act.put, List.setIfInBounds_toArray, List.set_cons_zero, List.set_cons_succ]
              refine take_at 6 (some 43) (tx t1) rfl rfl (by kernel_rfl) (by kernel_rfl) (by kernel_rfl) (fun _ _ _ h => h) (by rfl) (fun W hSw => exec_add rfl t p1 rfl rfl (by omega) t1 H1.out W) C0 ?_
              simp only [Act.put, List.setIfInBounds_toArray, List.set_cons_zero, List.set_cons_succ]
              refine take_at 7 (some 44) (tx t2) rfl rfl (by kernel_rfl) (by kernel_rfl) (by kernel_rfl) (fun _ _ _ h => h) (by rfl) (fun W hSw => exec_add rfl t1 [61] rfl rfl (by simp; omega) t2 H2.out W) C0 ?_
              simp only [Act.put, List.setIfInBounds_toArray, List.set_cons_zero, List.set_cons_succ]
              refine take_at 8 (some 45) (.slice (some ⟨b1, o1, none⟩) n c) rfl rfl (by kernel_rfl) (by kernel_rfl) (by kernel_rfl) (fun _ _ _ h => h) (by rfl) (fun W hSw => by go_simp) C0 ?_
              simp only [Act.put, List.setIfInBounds_toArray, List.set_cons_zero, List.set_cons_succ]
              refine take_at 9 (some 46) (.int .i64 j) rfl rfl (by kernel_rfl) (by kernel_rfl) (by kernel_rfl) (fun _ _ _ h => h) (by rfl) (fun W hSw => by go_simp) C0 ?_
              simp only [Act.put, List.setIfInBounds_toArray, List.set_cons_zero, List.set_cons_succ]
              refine take_at 10 (some 47) (.pointer (some ⟨b1, o1 + j * 2, none⟩)) rfl rfl (by kernel_rfl) (by kernel_rfl) (by kernel_rfl) (fun _ _ _ h => h) (by rfl) (fun W hSw => by go_simp) C0 ?_
              simp only [Act.put, List.setIfInBounds_toArray, List.set_cons_zero, List.set_cons_succ]
              refine take_at 11 (some 48) (.pointer (some ⟨b1, o1 + j * 2 + 1, none⟩)) rfl rfl (by kernel_rfl) (by kernel_rfl) (by kernel_rfl) (fun _ _ _ h => h) (by rfl) (fun W hSw => by go_simp) C0 ?_
              simp only [Act.put, List.setIfInBounds_toArray, List.set_cons_zero, List.set_cons_succ]
              refine take_at 12 (some 49) (tx p2) rfl rfl (by kernel_rfl) (by kernel_rfl) (by kernel_rfl) (fun _ _ _ h => h) (by rfl) (fun W hSw => by have c1 := m1 W hSw; go_simp) C0 ?_
              simp only [Act.put, List.setIfInBounds_toArray, List.set_cons_zero, List.set_cons_succ]
              refine wpAnyH_ready (rs := [13]) (by kernel_rfl) (by simp) ?_
              refine AllReadyH.cons rfl (fun K hK => ?_) AllReadyH.nil
              go_simp
              refine (hqt _).mono ?_
              rintro e w8 ⟨rfl, rfl⟩
              refine hK.out _ _ ?_ (fun _ => ?_)
              · exact C0
              clear hK K
              refine take_at 14 (some 51) (tx t3) rfl rfl (by kernel_rfl) (by kernel_rfl) (by kernel_rfl) (fun _ _ _ h => h) (by rfl) (fun W hSw => exec_add rfl t2 qv rfl rfl (by omega) t3 H3.out W) C0 ?_
              simp only [Act.put, List.setIfInBounds_toArray, List.set_cons_zero, List.set_cons_succ]
              refine take_at 15 (some 4) (tx t3) rfl rfl (by kernel_rfl) (by kernel_rfl) (by kernel_rfl) (fun _ _ _ h => h) (by rfl) (fun W hSw => by go_simp) C0 ?_
              simp only [Act.put, List.setIfInBounds_toArray, List.set_cons_zero, List.set_cons_succ]
              refine wpAnyH_done (by kernel_rfl) ?_ _
              refine NoPanic.normal ?_
              go_wp2
              go_roundw
              case rel => exact ⟨j + 1, t3, by omega, by go_num, by rw [HLN.out]; go_num, rfl, HN, Below.chain hb C0⟩
              case measure => simp [intOf]; omega
            · have hz1 : (0 : Int) < ((oth false (l.take j)).length : Nat) := by have := List.length_pos_iff.2 hz; omega
              have hlen : (oth false (l.take (j + 1))).length = (oth false (l.take j)).length + 1 := by rw [HJ.out]; simp
              obtain ⟨tc, htc⟩ : ∃ q, q = t ++ [44] := ⟨_, rfl⟩
              have a1 : (⟨t.toArray⟩ : ByteArray) ++ ⟨#[44]⟩ = ⟨tc.toArray⟩ := by rw [htc]; exact ba_append t [44]
              obtain ⟨t1, ht1⟩ : ∃ q, q = tc ++ p1 := ⟨_, rfl⟩
              have H1 : Hid _ := ht1
              obtain ⟨t2, ht2⟩ : ∃ q, q = t1 ++ [61] := ⟨_, rfl⟩
              have H2 : Hid _ := ht2
              obtain ⟨t3, ht3⟩ : ∃ q, q = t2 ++ qv := ⟨_, rfl⟩
              have H3 : Hid _ := ht3
              have g0 : tc.length = t.length + 1 := by rw [htc]; simp
              have g1 : t1.length = tc.length + p1.length := by rw [ht1]; simp
              have g2 : t2.length = t1.length + 1 := by rw [ht2]; simp
              have HN : Hid (t3 = inner (oth false (l.take (j + 1)))) := by show _ = _; rw [HJ.out, HP2.out hz, ht3, ht2, ht1, htc, HT.out]; simp
              have HLN : Hid _ := hlen
              have G0 : tc.length ≤ 680 := by omega
              have G1 : t1.length ≤ 700 := by omega
              have G2 : t2.length ≤ 701 := by omega
              clear hz hlen htc ht1 ht2 ht3 g0 g1 g2 HT HP HP2 HJ
              generalize (oth false (l.take j)).length = N at *
              go_wp2_with fail
              have C0 : Below wr.heap.size wr wr.drew := (Below.refl _ _).drew
              refine wp_region_noPanic ?_
              refine wp_region_held_drew (S := fun W => Below wr.heap.size wr W) (by kernel_rfl) ?_ (fun _ => ?_)
              · exact C0
              generalize wr.drew = wd at *
              refine take_at 0 (some 37) (tx tc) rfl rfl (by kernel_rfl) (by kernel_rfl) (by kernel_rfl) (fun _ _ _ h => h) (by rfl) (fun W hSw => by go_simp) C0 ?_
              simp only [Act.put, List.setIfInBounds_toArray, List.set_cons_zero, List.set_cons_succ]
              refine take_at 1 (some 38) (.slice (some ⟨b1, o1, none⟩) n c) rfl rfl (by kernel_rfl) (by kernel_rfl) (by kernel_rfl) (fun _ _ _ h => h) (by rfl) (fun W hSw => by go_simp) C0 ?_
              simp only [Act.put, List.setIfInBounds_toArray, List.set_cons_zero, List.set_cons_succ]
              refine take_at 2 (some 39) (.int .i64 j) rfl rfl (by kernel_rfl) (by kernel_rfl) (by kernel_rfl) (fun _ _ _ h => h) (by rfl) (fun W hSw => by go_simp) C0 ?_
              simp only [Act.put, List.setIfInBounds_toArray, List.set_cons_zero, List.set_cons_succ]
              refine take_at 3 (some 40) (.pointer (some ⟨b1, o1 + j * 2, none⟩)) rfl rfl (by kernel_rfl) (by kernel_rfl) (by kernel_rfl) (fun _ _ _ h => h) (by rfl) (fun W hSw => by go_simp) C0 ?_
              simp only [Act.put, List.setIfInBounds_toArray, List.set_cons_zero, List.set_cons_succ]
              refine take_at 4 (some 41) (.pointer (some ⟨b1, o1 + j * 2, none⟩)) rfl rfl (by kernel_rfl) (by kernel_rfl) (by kernel_rfl) (fun _ _ _ h => h) (by rfl) (fun W hSw => by go_simp) C0 ?_
              simp only [Act.put, List.setIfInBounds_toArray, List.set_cons_zero, List.set_cons_succ]
              refine take_at 5 (some 42) (tx p1) rfl rfl (by kernel_rfl) (by kernel_rfl) (by kernel_rfl) (fun _ _ _ h => h) (by rfl) (fun W hSw => by have c0 := m0 W hSw; go_simp) C0 ?_
              simp only [Act.put, List.setIfInBounds_toArray, List.set_cons_zero, List.set_cons_succ]
              refine take_at 6 (some 43) (tx t1) rfl rfl (by kernel_rfl) (by kernel_rfl) (by kernel_rfl) (fun _ _ _ h => h) (by rfl) (fun W hSw => exec_add rfl tc p1 rfl rfl (by omega) t1 H1.out W) C0 ?_
              simp only [Act.put, List.setIfInBounds_toArray, List.set_cons_zero, List.set_cons_succ]
              refine take_at 7 (some 44) (tx t2) rfl rfl (by kernel_rfl) (by kernel_rfl) (by kernel_rfl) (fun _ _ _ h => h) (by rfl) (fun W hSw => exec_add rfl t1 [61] rfl rfl (by simp; omega) t2 H2.out W) C0 ?_
              simp only [Act.put, List.setIfInBounds_toArray, List.set_cons_zero, List.set_cons_succ]
              refine take_at 8 (some 45) (.slice (some ⟨b1, o1, none⟩) n c) rfl rfl (by kernel_rfl) (by kernel_rfl) (by kernel_rfl) (fun _ _ _ h => h) (by rfl) (fun W hSw => by go_simp) C0 ?_
              simp only [Act.put, List.setIfInBounds_toArray, List.set_cons_zero, List.set_cons_succ]
              refine take_at 9 (some 46) (.int .i64 j) rfl rfl (by kernel_rfl) (by kernel_rfl) (by kernel_rfl) (fun _ _ _ h => h) (by rfl) (fun W hSw => by go_simp) C0 ?_
              simp only [Act.put, List.setIfInBounds_toArray, List.set_cons_zero, List.set_cons_succ]
              refine take_at 10 (some 47) (.pointer (some ⟨b1, o1 + j * 2, none⟩)) rfl rfl (by kernel_rfl) (by kernel_rfl) (by kernel_rfl) (fun _ _ _ h => h) (by rfl) (fun W hSw => by go_simp) C0 ?_
              simp only [Act.put, List.setIfInBounds_toArray, List.set_cons_zero, List.set_cons_succ]
              refine take_at 11 (some 48) (.pointer (some ⟨b1, o1 + j * 2 + 1, none⟩)) rfl rfl (by kernel_rfl) (by kernel_rfl) (by kernel_rfl) (fun _ _ _ h => h) (by rfl) (fun W hSw => by go_simp) C0 ?_
              simp only [Act.put, List.setIfInBounds_toArray, List.set_cons_zero, List.set_cons_succ]
              refine take_at 12 (some 49) (tx p2) rfl rfl (by kernel_rfl) (by kernel_rfl) (by kernel_rfl) (fun _ _ _ h => h) (by rfl) (fun W hSw => by have c1 := m1 W hSw; go_simp) C0 ?_
              simp only [Act.put, List.setIfInBounds_toArray, List.set_cons_zero, List.set_cons_succ]
              refine wpAnyH_ready (rs := [13]) (by kernel_rfl) (by simp) ?_
              refine AllReadyH.cons rfl (fun K hK => ?_) AllReadyH.nil
              go_simp
              refine (hqt _).mono ?_
              rintro e w8 ⟨rfl, rfl⟩
              refine hK.out _ _ ?_ (fun _ => ?_)
              · exact C0
              clear hK K
              refine take_at 14 (some 51) (tx t3) rfl rfl (by kernel_rfl) (by kernel_rfl) (by kernel_rfl) (fun _ _ _ h => h) (by rfl) (fun W hSw => exec_add rfl t2 qv rfl rfl (by omega) t3 H3.out W) C0 ?_
              simp only [Act.put, List.setIfInBounds_toArray, List.set_cons_zero, List.set_cons_succ]
              refine take_at 15 (some 4) (tx t3) rfl rfl (by kernel_rfl) (by kernel_rfl) (by kernel_rfl) (fun _ _ _ h => h) (by rfl) (fun W hSw => by go_simp) C0 ?_
              simp only [Act.put, List.setIfInBounds_toArray, List.set_cons_zero, List.set_cons_succ]
              refine wpAnyH_done (by kernel_rfl) ?_ _
              refine NoPanic.normal ?_
              go_wp2
              go_roundw
              case rel => exact ⟨j + 1, t3, by omega, by go_num, by rw [HLN.out]; go_num, rfl, HN, Below.chain hb C0⟩
              case measure => simp [intOf]; omega
        · have HTL : Hid (oth false (l.take j) = others l) := by show _ = _; rw [List.take_of_length_le (by rw [HL.out]; omega), HO.out]
          rw [HTL.out] at HT hol ⊢
          clear HTL HO hcell hat hle
          obtain ⟨os, hos⟩ : ∃ q, q = others l := ⟨_, rfl⟩
          rw [← hos] at HT HR hol ⊢
          clear hos
          obtain ⟨ta, hta⟩ : ∃ q, q = [123] ++ t := ⟨_, rfl⟩
          obtain ⟨tb, htb⟩ : ∃ q, q = ta ++ [125] := ⟨_, rfl⟩
          have a1 : (⟨#[123]⟩ : ByteArray) ++ ⟨t.toArray⟩ = ⟨ta.toArray⟩ := by rw [hta]; exact ba_append [123] t
          have a2 : (⟨ta.toArray⟩ : ByteArray) ++ ⟨#[125]⟩ = ⟨tb.toArray⟩ := by rw [htb]; exact ba_append ta [125]
          have g1 : ta.length ≤ 680 := by rw [hta]; simp; omega
          have g2 : tb.length ≤ 690 := by rw [htb]; simp; omega
          have a3 : (⟨([] : Str).toArray⟩ : ByteArray) ++ ⟨tb.toArray⟩ = ⟨(([] : Str) ++ tb).toArray⟩ := ba_append _ _
          have a4 : (⟨([] : Str).toArray⟩ : ByteArray) ++ ⟨t.toArray⟩ = ⟨(([] : Str) ++ t).toArray⟩ := ba_append _ _
          have HF : Hid (([] : Str) ++ tb = [] ++ [123] ++ inner os ++ [125]) := by show _ = _; rw [htb, hta, HT.out]; simp
          by_cases hoe : os = []
          · have ho0 : ¬ (0 : Int) < (os.length : Nat) := by rw [hoe]; simp
            have HE : Hid (fPrint l = [] ++ tb) := by show _ = _; rw [HR.out, if_neg (fun h => h.1 rfl), HF.out]
            clear HR HF hta htb HT hoe
            rw [List.nil_append] at HE a3
            generalize os.length = N at *
            go_wp2_with fail
            go_ret
            exact ⟨by rw [HE.out]; rfl, hb⟩
          · have ho0 : (0 : Int) < (os.length : Nat) := by have := List.length_pos_iff.2 hoe; omega
            have HE : Hid (fPrint l = [] ++ tb) := by show _ = _; rw [HR.out, if_neg (fun h => h.1 rfl), HF.out]
            clear HR HF hta htb HT hoe
            rw [List.nil_append] at HE a3
            generalize os.length = N at *
            go_wp2_with fail
            go_ret
            exact ⟨by rw [HE.out]; rfl, hb⟩
end Go.Proofs.YtldlhpokkidmlaaGreatDoor
