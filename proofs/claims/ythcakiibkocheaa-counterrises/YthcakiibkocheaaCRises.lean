/- CounterRises, walked. -/
import Derived.Test.YthcakiibkocheaaCRiP
import Derived.Test.YthcakiibkocheaaCTwoR
import Derived.Test.YthcakiibkocheaaCKnown
namespace Go.Proofs.Ythcakiibkocheaa
open Go.RowKit

set_option maxRecDepth 100000 in
set_option maxHeartbeats 16000000 in
theorem rises_any (ao : Option Addr) (n cap : Nat) (u : List Nat) (at' : Nat) (w : World) (_ : n ≤ maxLen) (hat : at' ≤ 255) (hs : Ik w .u16 ao n u) (hl : ∀ x ∈ u, x ≤ 65535) :
    Calls Try.prog 5 #[.slice ao n cap, .int .u8 at'] w fun e w' => e = .returned (.bool true) ∧ Below w.heap.size w w' := by
  by_cases h2 : n < 2
  · have d2 : decide ((n : Int) < 2) = true := decide_eq_true (by omega)
    clear hs hl hat
    go_enter Try.func5, Try.ntmps5
    go_wp2_with fail
    refine (known_any _).mono ?_
    rintro e w1 ⟨rfl, hb1⟩
    go_wp2
    go_ret
    exact ⟨rfl, hb1⟩
  · have d2 : decide ((n : Int) < 2) = false := decide_eq_false (by omega)
    by_cases h60 : 60 < n
    · have d6 : decide ((60 : Int) < (n : Int)) = true := decide_eq_true (by omega)
      have d6' : decide (60 < n) = true := decide_eq_true h60
      clear hs hl hat
      go_enter Try.func5, Try.ntmps5
      go_wp2_with fail
      refine (known_any _).mono ?_
      rintro e w1 ⟨rfl, hb1⟩
      go_wp2
      go_ret
      exact ⟨rfl, hb1⟩
    · have d6 : decide ((60 : Int) < (n : Int)) = false := decide_eq_false (by omega)
      have d6' : decide (60 < n) = false := decide_eq_false h60
      obtain ⟨b, off, rfl, hcell⟩ := hs.read (by omega)
      have HC : Hid (∀ W, Below w.heap.size w W → ∀ j, j < n → W.cell? ⟨b, off + j, none⟩ = some (.int .u16 ((u.getD j 0 : Nat) : Int))) := hcell
      have HL : Hid (∀ x ∈ u, x ≤ 65535) := hl
      have H60 : Hid (2 ≤ n ∧ n ≤ 60) := ⟨by omega, by omega⟩
      have HUp : Hid (wrap64 (at' : Int) = (at' : Int)) := wNat at' (by omega)
      obtain ⟨r, hr⟩ : ∃ r, r = at' % n := ⟨_, rfl⟩
      have hrn : r < n := by rw [hr]; exact Nat.mod_lt _ (by omega)
      have HM : Hid (((at' : Int)).tmod (n : Int) = (r : Int)) := by show _ = _; rw [hr]; rfl
      have HU0 : Hid (wrap64 ((u.getD 0 0 : Nat) : Int) = ((u.getD 0 0 : Nat) : Int)) := wNat _ (by have := getD_le hl 0; omega)
      have hn0 : decide ((n : Int) = 0) = false := decide_eq_false (by omega)
      have hn0' : ((n : Int) == 0) = false := by rw [beq_eq_false_iff_ne]; omega
      clear hs hl hcell h2 hr
      go_enter Try.func5, Try.ntmps5
      go_wp2_with fail
      refine (known_any _).mono ?_
      rintro e w0 ⟨rfl, hb0⟩
      go_wp2_with fail
      have e0 := HUp.out
      have em := HM.out
      have hS0 : (fun _ : World => True) w0.drew := trivial
      refine wp_region_noPanic ?_
      refine wp_region_held_drew (S := fun _ : World => True) (by kernel_rfl) hS0 (fun _ => ?_)
      refine take_at 0 (some 24) (.int .u8 at') rfl rfl (by kernel_rfl) (by kernel_rfl) (by kernel_rfl) (fun _ _ _ h => h) (by rfl) (fun W hSw => by go_simp) hS0 ?_
      simp only [Act.put, List.setIfInBounds_toArray, List.set_cons_zero, List.set_cons_succ]
      refine take_at 1 (some 25) (.int .i64 at') rfl rfl (by kernel_rfl) (by kernel_rfl) (by kernel_rfl) (fun _ _ _ h => h) (by rfl) (fun W hSw => by go_simp; exact wI (by omega) (by omega)) hS0 ?_
      simp only [Act.put, List.setIfInBounds_toArray, List.set_cons_zero, List.set_cons_succ]
      refine take_at 2 (some 26) (.slice (some ⟨b, off, none⟩) n cap) rfl rfl (by kernel_rfl) (by kernel_rfl) (by kernel_rfl) (fun _ _ _ h => h) (by rfl) (fun W hSw => by go_simp) hS0 ?_
      simp only [Act.put, List.setIfInBounds_toArray, List.set_cons_zero, List.set_cons_succ]
      refine take_at 3 (some 27) (.int .i64 n) rfl rfl (by kernel_rfl) (by kernel_rfl) (by kernel_rfl) (fun _ _ _ h => h) (by rfl) (fun W hSw => by go_simp) hS0 ?_
      simp only [Act.put, List.setIfInBounds_toArray, List.set_cons_zero, List.set_cons_succ]
      refine take_at 4 (some 28) (.int .i64 r) rfl rfl (by kernel_rfl) (by kernel_rfl) (by kernel_rfl) (fun _ _ _ h => h) (by rfl) (fun W hSw => by go_simp; omega) hS0 ?_
      simp only [Act.put, List.setIfInBounds_toArray, List.set_cons_zero, List.set_cons_succ]
      refine take_at 5 (some 6) (.int .i64 0) rfl rfl (by kernel_rfl) (by kernel_rfl) (by kernel_rfl) (fun _ _ _ h => h) (by rfl) (fun W hSw => by go_simp) hS0 ?_
      simp only [Act.put, List.setIfInBounds_toArray, List.set_cons_zero, List.set_cons_succ]
      refine take_at 6 (some 7) (.int .i64 0) rfl rfl (by kernel_rfl) (by kernel_rfl) (by kernel_rfl) (fun _ _ _ h => h) (by rfl) (fun W hSw => by go_simp) hS0 ?_
      simp only [Act.put, List.setIfInBounds_toArray, List.set_cons_zero, List.set_cons_succ]
      refine take_at 7 (some 8) (.int .i64 r) rfl rfl (by kernel_rfl) (by kernel_rfl) (by kernel_rfl) (fun _ _ _ h => h) (by rfl) (fun W hSw => by go_simp) hS0 ?_
      simp only [Act.put, List.setIfInBounds_toArray, List.set_cons_zero, List.set_cons_succ]
      refine wpAnyH_done (by kernel_rfl) ?_ _
      refine NoPanic.normal ?_
      have hb0 := hb0.trans (Below.refl _ _).drew
      generalize w0.drew = w0 at *
      have hc0 := HC.out _ hb0 0 (by have := H60.out; omega)
      have e00 := HU0.out
      simp only [Nat.add_zero] at hc0
      generalize hfi : u.getD 0 0 = fi at *
      have HFI : Hid (u.getD 0 0 = fi) := hfi
      clear hfi e0 em
      go_wp2_with fail
      rw [e00]
      clear e00
      go_loopw [10, 6, 7, 5] (fun t s a l wr => ∃ (j : Nat) (x : Value), Hid (j ≤ n) ∧ t = .int .i64 j ∧ s = .int .i64 (ns u r j : Nat) ∧ a = .int .i64 (al u r j : Nat) ∧ l = x ∧ Own wr w.heap.size x (smR u r j) ∧ Below w.heap.size w wr) (fun t _ _ _ _ => n - (intOf t).toNat)
      case atStart => exact ⟨0, _, by show 0 ≤ n; omega, rfl, rfl, rfl, rfl, Own.nil _ _, hb0⟩
      case round =>
        obtain ⟨j, x, HJ, rfl, rfl, rfl, hx, ox, hb⟩ := hrel
        subst hx
        by_cases hlt : j < n
        · have dj : decide ((j : Int) < (n : Int)) = true := decide_eq_true (by omega)
          have hj60 : j < 60 := by have := H60.out; omega
          have hcj := HC.out _ hb j hlt
          have HLx : Hid ((smR u r j).length ≤ 1000) := by show _ ≤ _; rw [smR_len]; omega
          have HX : Hid (smR u r (j + 1) = smR u r j ++ [((j : Int), false, ((ns u r (j + 1) : Nat) : Int) * 1000000)]) := smR_snoc u r j
          have HGet : Hid (∀ p, p + 1 = j → ((smR u r j).getD p s0).2.2 = ((ns u r j : Nat) : Int) * 1000000) := by
            intro p hp
            rw [smR_get u r (by omega), hp]
          have HLen : Hid ((smR u r j).length = j) := smR_len u r j
          have HAt : Hid ((j = r ∧ 0 < j) → ns u r (j + 1) = u.getD j 0 % 7) := fun h => ns_at h
          have HOn : Hid (¬ (j = r ∧ 0 < j) → ns u r (j + 1) = ns u r j + u.getD j 0) := fun h => ns_on h
          have HAl : Hid (0 < j → al u r (j + 1) = al u r j + (if ns u r (j + 1) < ns u r j then ns u r (j + 1) else ns u r (j + 1) - ns u r j)) := fun h => al_on h
          have HA0 : Hid (j = 0 → al u r (j + 1) = al u r j) := fun h => by subst h; rfl
          have hq0 := ns_60 HL.out r (j := j) (by omega)
          have hq1 := ns_60 HL.out r (j := j + 1) (by omega)
          have ha0 := al_60 HL.out r (j := j) (by omega)
          have ha1 := al_60 HL.out r (j := j + 1) (by omega)
          have hv := getD_le HL.out j
          generalize smR u r j = LX at *
          obtain ⟨q1, hq1e⟩ : ∃ q, ns u r (j + 1) = q := ⟨_, rfl⟩
          have HQ : Hid (ns u r (j + 1) = q1) := hq1e
          rw [hq1e] at HX HAt HOn HAl hq1
          obtain ⟨a1, ha1e⟩ : ∃ a, al u r (j + 1) = a := ⟨_, rfl⟩
          have HAQ : Hid (al u r (j + 1) = a1) := ha1e
          rw [ha1e] at HAl HA0 ha1
          clear hq1e ha1e
          generalize ns u r j = q0 at *
          generalize al u r j = a0 at *
          generalize u.getD j 0 = v at *
          have hmx : n - (j + 1) < n - j := by omega
          have hj1 : j + 1 ≤ n := hlt
          have hs1 : q0 + v ≤ 1000000000 := by omega
          have hv2 : v ≤ 1000000000 := by omega
          have hA := fun W => kn_of (q1 : Int) ((q1 : Int) * 1000000) (fOf_mid q1 (by omega)) (r64_mid q1 (by omega)) W
          by_cases h0 : j = 0
          · by_cases hr0 : j = r
            · have hq : q1 = q0 + v := HOn.out (fun h => by omega)
              have ha : a1 = a0 := HA0.out h0
              subst ha
              have d0 : decide ((0 : Int) < (j : Int)) = false := decide_eq_false (by omega)
              have d0' : decide (0 < j) = false := decide_eq_false (by omega)
              have dr : ((j : Int) == (r : Int)) = true := beq_iff_eq.2 (by omega)
              have hq1' : q1 ≤ 1000000000 := by omega
              clear h0 hr0
              have e1 := wNat v hv2
              have e2 := wAdd q0 v q1 hq hq1'
              clear hq HOn HAt HAl HA0 hq0 hq1 ha0 hv hs1 hv2 hq1' HGet
              go_wp2_with fail
              refine (hA _).mono ?_
              rintro e w1 ⟨rfl, hb1⟩
              have hx1 := BoxS.new w1 ((j : Int), false, (q1 : Int) * 1000000)
              have hb2 := bal (Below.chain hb hb1) (.cells #[.int .i64 (j : Int), .bool false, .int .i64 ((q1 : Int) * 1000000)] 32)
              have ox1 := (ox.later hb1).later (bal (Below.refl _ _) (.cells #[.int .i64 (j : Int), .bool false, .int .i64 ((q1 : Int) * 1000000)] 32))
              go_wp2_with (at_builtin; go_must (refine wpList_append_where _ rfl _ _ rfl rfl w.heap.size _ LX ((j : Int), false, (q1 : Int) * 1000000) rfl ox1 w1.heap.size rfl hx1 HLx.out hb2.size ?_))
              intro x' w2 ox2 hg2 hf2
              have hb3 := hb2.grown hg2 hb2.size (fun k hk => (World.ownsRow.lt ox1 k hk).1)
              clear hx1 hb2 ox1 hf2 hg2 hb1
              try clear e1
              try clear e2
              try clear e4
              try clear e5
              try clear ep2
              try clear eq8
              try clear eq9
              try clear h7b
              try clear h7
              try clear hcx2
              try clear hlq hlq'
              clear d0 d0' dr
              go_wp2
              go_roundw
              case rel => exact ⟨j + 1, x', hj1, by go_num, by rw [HQ.out], by rw [HAQ.out], rfl, by rw [HX.out]; exact ox2, hb3⟩
              case measure => simp [intOf]; omega
            · have hq : q1 = q0 + v := HOn.out (fun h => by omega)
              have ha : a1 = a0 := HA0.out h0
              subst ha
              have d0 : decide ((0 : Int) < (j : Int)) = false := decide_eq_false (by omega)
              have d0' : decide (0 < j) = false := decide_eq_false (by omega)
              have dr : ((j : Int) == (r : Int)) = false := beq_eq_false_iff_ne.2 (by omega)
              have hq1' : q1 ≤ 1000000000 := by omega
              clear h0 hr0
              have e1 := wNat v hv2
              have e2 := wAdd q0 v q1 hq hq1'
              clear hq HOn HAt HAl HA0 hq0 hq1 ha0 hv hs1 hv2 hq1' HGet
              go_wp2_with fail
              refine (hA _).mono ?_
              rintro e w1 ⟨rfl, hb1⟩
              have hx1 := BoxS.new w1 ((j : Int), false, (q1 : Int) * 1000000)
              have hb2 := bal (Below.chain hb hb1) (.cells #[.int .i64 (j : Int), .bool false, .int .i64 ((q1 : Int) * 1000000)] 32)
              have ox1 := (ox.later hb1).later (bal (Below.refl _ _) (.cells #[.int .i64 (j : Int), .bool false, .int .i64 ((q1 : Int) * 1000000)] 32))
              go_wp2_with (at_builtin; go_must (refine wpList_append_where _ rfl _ _ rfl rfl w.heap.size _ LX ((j : Int), false, (q1 : Int) * 1000000) rfl ox1 w1.heap.size rfl hx1 HLx.out hb2.size ?_))
              intro x' w2 ox2 hg2 hf2
              have hb3 := hb2.grown hg2 hb2.size (fun k hk => (World.ownsRow.lt ox1 k hk).1)
              clear hx1 hb2 ox1 hf2 hg2 hb1
              try clear e1
              try clear e2
              try clear e4
              try clear e5
              try clear ep2
              try clear eq8
              try clear eq9
              try clear h7b
              try clear h7
              try clear hcx2
              try clear hlq hlq'
              clear d0 d0' dr
              go_wp2
              go_roundw
              case rel => exact ⟨j + 1, x', hj1, by go_num, by rw [HQ.out], by rw [HAQ.out], rfl, by rw [HX.out]; exact ox2, hb3⟩
              case measure => simp [intOf]; omega
          · by_cases hr0 : j = r
            · by_cases hc : q1 < q0
              · have hq : q1 = v % 7 := HAt.out ⟨hr0, by omega⟩
                have ha : a1 = a0 + q1 := by
                  have := HAl.out (by omega)
                  rw [if_pos hc] at this
                  exact this
                have d0 : decide ((0 : Int) < (j : Int)) = true := decide_eq_true (by omega)
                have d0' : decide (0 < j) = true := decide_eq_true (by omega)
                have dr : ((j : Int) == (r : Int)) = true := beq_iff_eq.2 (by omega)
                have hlq : decide ((q1 : Int) < (q0 : Int)) = true := decide_eq_true (by omega)
                have hlq' : decide (q1 < q0) = true := decide_eq_true (by omega)
                obtain ⟨ax, cx, rfl, mx⟩ := ox.slice
                rw [HLen.out] at mx ox ⊢
                obtain ⟨bx, ofx, rfl, hrx⟩ := mx.read (by omega)
                obtain ⟨p, hp⟩ : ∃ p, p + 1 = j := ⟨j - 1, by omega⟩
                have hcx := (hrx _ (Below.refl _ _) p (by omega)).2
                rw [HGet.out p hp] at hcx
                have hcx2 : wr.cell? ⟨bx, ofx + (j - 1) * 3 + 1 + 1, none⟩ = some (.int .i64 ((q0 : Int) * 1000000)) := by
                  rw [show j - 1 = p by omega]
                  exact hcx
                clear hcx
                have hpj : p < j := by omega
                have hj9 : j ≤ 1000000000 := by omega
                have hq9 : q0 ≤ 1000000000 := by omega
                obtain ⟨sv', hsv⟩ : ∃ s, s = q0 + v := ⟨_, rfl⟩
                have hsb : sv' ≤ 1000000000 := by omega
                have hq1' : q1 ≤ 1000000000 := by omega
                have ha9 : a1 ≤ 1000000000 := by omega
                have h7 : ((v : Int)).tmod 7 = (q1 : Int) := by rw [hq]; rfl
                have eq8 := quoM q0
                have eq9 := wNat q0 hq9
                have e1 := wNat v hv2
                have h7b : wrap64 (q1 : Int) = (q1 : Int) := wNat q1 hq1'
                have e2 := wAdd q0 v sv' hsv hsb
                have e4 := wAdd a0 q1 a1 ha ha9
                clear hq ha hc HOn HAt HAl HA0 hq0 hq1 ha0 hv hs1 hv2 hq1' hsv hsb HGet h0 hr0 hp mx hrx hj9 hq9
                go_wp2_with fail
                refine (hA _).mono ?_
                rintro e w1 ⟨rfl, hb1⟩
                have hx1 := BoxS.new w1 ((j : Int), false, (q1 : Int) * 1000000)
                have hb2 := bal (Below.chain hb hb1) (.cells #[.int .i64 (j : Int), .bool false, .int .i64 ((q1 : Int) * 1000000)] 32)
                have ox1 := (ox.later hb1).later (bal (Below.refl _ _) (.cells #[.int .i64 (j : Int), .bool false, .int .i64 ((q1 : Int) * 1000000)] 32))
                go_wp2_with (at_builtin; go_must (refine wpList_append_where _ rfl _ _ rfl rfl w.heap.size _ LX ((j : Int), false, (q1 : Int) * 1000000) rfl ox1 w1.heap.size rfl hx1 HLx.out hb2.size ?_))
                intro x' w2 ox2 hg2 hf2
                have hb3 := hb2.grown hg2 hb2.size (fun k hk => (World.ownsRow.lt ox1 k hk).1)
                clear hx1 hb2 ox1 hf2 hg2 hb1
                try clear e1
                try clear e2
                try clear e4
                try clear e5
                try clear ep2
                try clear eq8
                try clear eq9
                try clear h7b
                try clear h7
                try clear hcx2
                try clear hlq hlq'
                clear d0 d0' dr
                go_wp2
                go_roundw
                case rel => exact ⟨j + 1, x', hj1, by go_num, by rw [HQ.out], by rw [HAQ.out], rfl, by rw [HX.out]; exact ox2, hb3⟩
                case measure => simp [intOf]; omega
              · have hq : q1 = v % 7 := HAt.out ⟨hr0, by omega⟩
                have ha : a1 = a0 + (q1 - q0) := by
                  have := HAl.out (by omega)
                  rw [if_neg hc] at this
                  exact this
                have d0 : decide ((0 : Int) < (j : Int)) = true := decide_eq_true (by omega)
                have d0' : decide (0 < j) = true := decide_eq_true (by omega)
                have dr : ((j : Int) == (r : Int)) = true := beq_iff_eq.2 (by omega)
                have hlq : decide ((q1 : Int) < (q0 : Int)) = false := decide_eq_false (by omega)
                have hlq' : decide (q1 < q0) = false := decide_eq_false (by omega)
                obtain ⟨x1, hx1e⟩ : ∃ x1, x1 = a0 + q1 := ⟨_, rfl⟩
                obtain ⟨ax, cx, rfl, mx⟩ := ox.slice
                rw [HLen.out] at mx ox ⊢
                obtain ⟨bx, ofx, rfl, hrx⟩ := mx.read (by omega)
                obtain ⟨p, hp⟩ : ∃ p, p + 1 = j := ⟨j - 1, by omega⟩
                have hcx := (hrx _ (Below.refl _ _) p (by omega)).2
                rw [HGet.out p hp] at hcx
                have hcx2 : wr.cell? ⟨bx, ofx + (j - 1) * 3 + 1 + 1, none⟩ = some (.int .i64 ((q0 : Int) * 1000000)) := by
                  rw [show j - 1 = p by omega]
                  exact hcx
                clear hcx
                have hpj : p < j := by omega
                have hj9 : j ≤ 1000000000 := by omega
                have hq9 : q0 ≤ 1000000000 := by omega
                obtain ⟨sv', hsv⟩ : ∃ s, s = q0 + v := ⟨_, rfl⟩
                have hsb : sv' ≤ 1000000000 := by omega
                have hq1' : q1 ≤ 1000000000 := by omega
                have ha9 : a1 ≤ 1000000000 := by omega
                have h7 : ((v : Int)).tmod 7 = (q1 : Int) := by rw [hq]; rfl
                have hxb : x1 ≤ 1000000000 := by omega
                have hxs : a1 + q0 = x1 := by omega
                have eq8 := quoM q0
                have eq9 := wNat q0 hq9
                have e1 := wNat v hv2
                have h7b : wrap64 (q1 : Int) = (q1 : Int) := wNat q1 hq1'
                have e2 := wAdd q0 v sv' hsv hsb
                have e4 := wAdd a0 q1 x1 hx1e hxb
                have e5 := wSub x1 q0 a1 hxs hxb
                clear hxb hxs hx1e
                clear hq ha hc HOn HAt HAl HA0 hq0 hq1 ha0 hv hs1 hv2 hq1' hsv hsb HGet h0 hr0 hp mx hrx hj9 hq9
                go_wp2_with fail
                refine (hA _).mono ?_
                rintro e w1 ⟨rfl, hb1⟩
                have hx1 := BoxS.new w1 ((j : Int), false, (q1 : Int) * 1000000)
                have hb2 := bal (Below.chain hb hb1) (.cells #[.int .i64 (j : Int), .bool false, .int .i64 ((q1 : Int) * 1000000)] 32)
                have ox1 := (ox.later hb1).later (bal (Below.refl _ _) (.cells #[.int .i64 (j : Int), .bool false, .int .i64 ((q1 : Int) * 1000000)] 32))
                go_wp2_with (at_builtin; go_must (refine wpList_append_where _ rfl _ _ rfl rfl w.heap.size _ LX ((j : Int), false, (q1 : Int) * 1000000) rfl ox1 w1.heap.size rfl hx1 HLx.out hb2.size ?_))
                intro x' w2 ox2 hg2 hf2
                have hb3 := hb2.grown hg2 hb2.size (fun k hk => (World.ownsRow.lt ox1 k hk).1)
                clear hx1 hb2 ox1 hf2 hg2 hb1
                try clear e1
                try clear e2
                try clear e4
                try clear e5
                try clear ep2
                try clear eq8
                try clear eq9
                try clear h7b
                try clear h7
                try clear hcx2
                try clear hlq hlq'
                clear d0 d0' dr
                go_wp2
                go_roundw
                case rel => exact ⟨j + 1, x', hj1, by go_num, by rw [HQ.out], by rw [HAQ.out], rfl, by rw [HX.out]; exact ox2, hb3⟩
                case measure => simp [intOf]; omega
            · have hq : q1 = q0 + v := HOn.out (fun h => by omega)
              have ha : a1 = a0 + (q1 - q0) := by
                have := HAl.out (by omega)
                rw [if_neg (by omega)] at this
                exact this
              have d0 : decide ((0 : Int) < (j : Int)) = true := decide_eq_true (by omega)
              have d0' : decide (0 < j) = true := decide_eq_true (by omega)
              have dr : ((j : Int) == (r : Int)) = false := beq_eq_false_iff_ne.2 (by omega)
              have hlq : decide ((q1 : Int) < (q0 : Int)) = false := decide_eq_false (by omega)
              have hlq' : decide (q1 < q0) = false := decide_eq_false (by omega)
              obtain ⟨x1, hx1e⟩ : ∃ x1, x1 = a0 + q1 := ⟨_, rfl⟩
              obtain ⟨ax, cx, rfl, mx⟩ := ox.slice
              rw [HLen.out] at mx ox ⊢
              obtain ⟨bx, ofx, rfl, hrx⟩ := mx.read (by omega)
              obtain ⟨p, hp⟩ : ∃ p, p + 1 = j := ⟨j - 1, by omega⟩
              have hcx := (hrx _ (Below.refl _ _) p (by omega)).2
              rw [HGet.out p hp] at hcx
              have hcx2 : wr.cell? ⟨bx, ofx + (j - 1) * 3 + 1 + 1, none⟩ = some (.int .i64 ((q0 : Int) * 1000000)) := by
                rw [show j - 1 = p by omega]
                exact hcx
              clear hcx
              have hpj : p < j := by omega
              have hj9 : j ≤ 1000000000 := by omega
              have hq9 : q0 ≤ 1000000000 := by omega
              have hq1' : q1 ≤ 1000000000 := by omega
              have hxb : x1 ≤ 1000000000 := by omega
              have hxs : a1 + q0 = x1 := by omega
              have eq8 := quoM q0
              have eq9 := wNat q0 hq9
              have e1 := wNat v hv2
              have e2 := wAdd q0 v q1 hq hq1'
              have e4 := wAdd a0 q1 x1 hx1e hxb
              have e5 := wSub x1 q0 a1 hxs hxb
              clear hq ha HOn HAt HAl HA0 hq0 hq1 ha0 hv hs1 hv2 hq1' hxb hxs hx1e HGet h0 hr0 hp mx hrx hj9 hq9
              go_wp2_with fail
              refine (hA _).mono ?_
              rintro e w1 ⟨rfl, hb1⟩
              have hx1 := BoxS.new w1 ((j : Int), false, (q1 : Int) * 1000000)
              have hb2 := bal (Below.chain hb hb1) (.cells #[.int .i64 (j : Int), .bool false, .int .i64 ((q1 : Int) * 1000000)] 32)
              have ox1 := (ox.later hb1).later (bal (Below.refl _ _) (.cells #[.int .i64 (j : Int), .bool false, .int .i64 ((q1 : Int) * 1000000)] 32))
              go_wp2_with (at_builtin; go_must (refine wpList_append_where _ rfl _ _ rfl rfl w.heap.size _ LX ((j : Int), false, (q1 : Int) * 1000000) rfl ox1 w1.heap.size rfl hx1 HLx.out hb2.size ?_))
              intro x' w2 ox2 hg2 hf2
              have hb3 := hb2.grown hg2 hb2.size (fun k hk => (World.ownsRow.lt ox1 k hk).1)
              clear hx1 hb2 ox1 hf2 hg2 hb1
              try clear e1
              try clear e2
              try clear e4
              try clear e5
              try clear ep2
              try clear eq8
              try clear eq9
              try clear h7b
              try clear h7
              try clear hcx2
              try clear hlq hlq'
              clear d0 d0' dr
              go_wp2
              go_roundw
              case rel => exact ⟨j + 1, x', hj1, by go_num, by rw [HQ.out], by rw [HAQ.out], rfl, by rw [HX.out]; exact ox2, hb3⟩
              case measure => simp [intOf]; omega
        · have dj : decide ((j : Int) < (n : Int)) = false := decide_eq_false (by omega)
          have dj' : decide (j < n) = false := decide_eq_false hlt
          obtain rfl : j = n := by have := HJ.out; omega
          obtain ⟨p, hp⟩ : ∃ p, p + 1 = j := ⟨j - 1, by have := H60.out; omega⟩
          have hj60 := H60.out.2
          have hrx := smR_r64 HL.out r hj60
          have hix := smR_inc HL.out r (p := p) (by omega)
          rw [hp] at hix
          have hlx := smR_len u r j
          have HNev : Hid (r = 0 → al u r j + fi = ns u r j) := by
            intro h
            subst h
            have := al_never u p
            rw [hp, HFI.out] at this
            exact this
          have ha := al_60 HL.out r hj60
          have hq := ns_60 HL.out r hj60
          obtain ⟨ax, cx, rfl, mx⟩ := ox.slice
          rw [hlx] at mx ⊢
          have hfx := fun W hW => of_row ax j cx (smR u r j) W (by omega) hW hrx
          have h2j : ¬ j < 2 := by have := H60.out; omega
          rw [if_neg h2j, hix] at hfx
          generalize smR u r j = LX at *
          generalize al u r j = a at *
          generalize ns u r j = q at *
          have hfx' : ∀ W, Ms W ax j LX → Calls Try.prog 20 #[.slice ax j cx] W fun e w' => e = .returned (.tuple #[.agg #[.bool false, .int .i64 ((a : Int) * 1000000)], .bool true]) ∧ Below W.heap.size W w' := hfx
          have ha9 : a ≤ 1000000000 := by omega
          have hq9 : q ≤ 1000000000 := by omega
          have hO := fun W => kn_of (a : Int) ((a : Int) * 1000000) (fOf_mid a ha9) (r64_mid a ha9) W
          clear hrx hix hlx ox hp HL HC H60 hfx h2j hj60 hlt d2 d6 d6' h60 ha hq ha9
          go_wp2_with fail
          refine (hfx' _ mx).mono ?_
          rintro e w1 ⟨rfl, hb1⟩
          have hx1 := Box.new w1 false ((a : Int) * 1000000)
          have hb2 := bal (Below.chain hb hb1) (.cells #[.bool false, .int .i64 ((a : Int) * 1000000)] 28)
          go_wp2_with fail
          generalize w1.heap.size = B1 at *
          generalize w1.alloc (.cells #[.bool false, .int .i64 ((a : Int) * 1000000)] 28) = w2 at *
          have hxz : Box w2.drew B1 false ((a : Int) * 1000000) := hx1.later (Below.refl _ _).drew
          have hbz : Below w.heap.size w w2.drew := hb2.trans (Below.refl _ _).drew
          by_cases hr0 : 0 < r
          · have dr : decide ((0 : Int) < (r : Int)) = true := decide_eq_true (by omega)
            have dr' : decide (0 < r) = true := decide_eq_true hr0
            clear hr0 HNev
            have hS0 : (fun W : World => Box W B1 false ((a : Int) * 1000000)) _ := hxz
            refine wp_region_noPanic ?_
            refine wp_region_held_drew (S := fun W : World => Box W B1 false ((a : Int) * 1000000)) (by kernel_rfl) hS0 (fun _ => ?_)
            refine take_at 0 (some 92) (.bool true) rfl rfl (by kernel_rfl) (by kernel_rfl) (by kernel_rfl) (fun _ _ _ h => h) (by rfl) (fun W hSw => by obtain ⟨q1, q2, _, _⟩ := hSw; go_simp) hS0 ?_
            simp only [Act.put, List.setIfInBounds_toArray, List.set_cons_zero, List.set_cons_succ]
            refine take_at 1 (some 93) (.bool true) rfl rfl (by kernel_rfl) (by kernel_rfl) (by kernel_rfl) (fun _ _ _ h => h) (by rfl) (fun W hSw => by obtain ⟨q1, q2, _, _⟩ := hSw; go_simp) hS0 ?_
            simp only [Act.put, List.setIfInBounds_toArray, List.set_cons_zero, List.set_cons_succ]
            refine take_at 2 (some 94) (.agg #[.bool false, .int .i64 ((a : Int) * 1000000)]) rfl rfl (by kernel_rfl) (by kernel_rfl) (by kernel_rfl) (fun _ _ _ h => h) (by rfl) (fun W hSw => by obtain ⟨q1, q2, _, _⟩ := hSw; go_simp) hS0 ?_
            simp only [Act.put, List.setIfInBounds_toArray, List.set_cons_zero, List.set_cons_succ]
            refine take_at 3 (some 95) (.int .i64 a) rfl rfl (by kernel_rfl) (by kernel_rfl) (by kernel_rfl) (fun _ _ _ h => h) (by rfl) (fun W hSw => by obtain ⟨q1, q2, _, _⟩ := hSw; go_simp) hS0 ?_
            simp only [Act.put, List.setIfInBounds_toArray, List.set_cons_zero, List.set_cons_succ]
            refine wpAnyH_ready (rs := [4]) (by kernel_rfl) (by simp) ?_
            refine AllReadyH.cons rfl (fun K hK => ?_) AllReadyH.nil
            go_simp
            refine (hO _).mono ?_
            rintro e w11 ⟨rfl, hb11⟩
            have hx11 := hxz.later hb11
            have hbf1 := Below.chain hbz hb11
            have hS1 := (hx11 : (fun W : World => Box W B1 false ((a : Int) * 1000000)) w11)
            refine hK.out _ _ hS1 (fun _ => ?_)
            clear hK K
            refine take_at 5 (some 97) (.bool true) rfl rfl (by kernel_rfl) (by kernel_rfl) (by kernel_rfl) (fun _ _ _ h => h) (by rfl) (fun W hSw => by obtain ⟨q1, q2, _, _⟩ := hSw; go_simp) hS1 ?_
            simp only [Act.put, List.setIfInBounds_toArray, List.set_cons_zero, List.set_cons_succ]
            refine take_at 6 (some 98) (.bool true) rfl rfl (by kernel_rfl) (by kernel_rfl) (by kernel_rfl) (fun _ _ _ h => h) (by rfl) (fun W hSw => by obtain ⟨q1, q2, _, _⟩ := hSw; go_simp) hS1 ?_
            simp only [Act.put, List.setIfInBounds_toArray, List.set_cons_zero, List.set_cons_succ]
            refine take_at 7 (some 99) (.bool true) rfl rfl (by kernel_rfl) (by kernel_rfl) (by kernel_rfl) (fun _ _ _ h => h) (by rfl) (fun W hSw => by obtain ⟨q1, q2, _, _⟩ := hSw; go_simp) hS1 ?_
            simp only [Act.put, List.setIfInBounds_toArray, List.set_cons_zero, List.set_cons_succ]
            refine take_at 8 (some 100) (.int .i64 r) rfl rfl (by kernel_rfl) (by kernel_rfl) (by kernel_rfl) (fun _ _ _ h => h) (by rfl) (fun W hSw => by obtain ⟨q1, q2, _, _⟩ := hSw; go_simp) hS1 ?_
            simp only [Act.put, List.setIfInBounds_toArray, List.set_cons_zero, List.set_cons_succ]
            refine take_at 9 (some 101) (.bool true) rfl rfl (by kernel_rfl) (by kernel_rfl) (by kernel_rfl) (fun _ _ _ h => h) (by rfl) (fun W hSw => by obtain ⟨q1, q2, _, _⟩ := hSw; go_simp) hS1 ?_
            simp only [Act.put, List.setIfInBounds_toArray, List.set_cons_zero, List.set_cons_succ]
            refine take_at 10 (some 102) (.bool true) rfl rfl (by kernel_rfl) (by kernel_rfl) (by kernel_rfl) (fun _ _ _ h => h) (by rfl) (fun W hSw => by obtain ⟨q1, q2, _, _⟩ := hSw; go_simp) hS1 ?_
            simp only [Act.put, List.setIfInBounds_toArray, List.set_cons_zero, List.set_cons_succ]
            refine skip_at 11 (some 103) rfl rfl (by kernel_rfl) (by kernel_rfl) (by kernel_rfl) (fun _ _ _ h => h) (by rfl) hS1 ?_
            simp only [Act.put, List.setIfInBounds_toArray, List.set_cons_zero, List.set_cons_succ]
            refine skip_at 12 (some 104) rfl rfl (by kernel_rfl) (by kernel_rfl) (by kernel_rfl) (fun _ _ _ h => h) (by rfl) hS1 ?_
            simp only [Act.put, List.setIfInBounds_toArray, List.set_cons_zero, List.set_cons_succ]
            refine skip_at 13 (some 105) rfl rfl (by kernel_rfl) (by kernel_rfl) (by kernel_rfl) (fun _ _ _ h => h) (by rfl) hS1 ?_
            simp only [Act.put, List.setIfInBounds_toArray, List.set_cons_zero, List.set_cons_succ]
            refine skip_at 14 (some 106) rfl rfl (by kernel_rfl) (by kernel_rfl) (by kernel_rfl) (fun _ _ _ h => h) (by rfl) hS1 ?_
            simp only [Act.put, List.setIfInBounds_toArray, List.set_cons_zero, List.set_cons_succ]
            refine skip_at 15 (some 107) rfl rfl (by kernel_rfl) (by kernel_rfl) (by kernel_rfl) (fun _ _ _ h => h) (by rfl) hS1 ?_
            simp only [Act.put, List.setIfInBounds_toArray, List.set_cons_zero, List.set_cons_succ]
            refine skip_at 16 (some 108) rfl rfl (by kernel_rfl) (by kernel_rfl) (by kernel_rfl) (fun _ _ _ h => h) (by rfl) hS1 ?_
            simp only [Act.put, List.setIfInBounds_toArray, List.set_cons_zero, List.set_cons_succ]
            have hbf := hbf1
            refine take_at 17 (some 109) (.bool true) rfl rfl (by kernel_rfl) (by kernel_rfl) (by kernel_rfl) (fun _ _ _ h => h) (by rfl) (fun W hSw => by obtain ⟨q1, q2, _, _⟩ := hSw; go_simp) hS1 ?_
            simp only [Act.put, List.setIfInBounds_toArray, List.set_cons_zero, List.set_cons_succ]
            refine take_at 18 (some 110) (.bool true) rfl rfl (by kernel_rfl) (by kernel_rfl) (by kernel_rfl) (fun _ _ _ h => h) (by rfl) (fun W hSw => by obtain ⟨q1, q2, _, _⟩ := hSw; go_simp) hS1 ?_
            simp only [Act.put, List.setIfInBounds_toArray, List.set_cons_zero, List.set_cons_succ]
            refine take_at 19 (some 4) (.bool true) rfl rfl (by kernel_rfl) (by kernel_rfl) (by kernel_rfl) (fun _ _ _ h => h) (by rfl) (fun W hSw => by obtain ⟨q1, q2, _, _⟩ := hSw; go_simp) hS1 ?_
            simp only [Act.put, List.setIfInBounds_toArray, List.set_cons_zero, List.set_cons_succ]
            refine wpAnyH_done (by kernel_rfl) ?_ _
            refine NoPanic.normal ?_
            go_wp2
            go_ret
            exact ⟨rfl, hbf⟩
          · have dr : decide ((0 : Int) < (r : Int)) = false := decide_eq_false (by omega)
            have dr' : decide (0 < r) = false := decide_eq_false hr0
            have ES : Hid (IntKind.i64.wrap ((q : Int) - (fi : Int)) = (a : Int)) := by
              have h := HNev.out (by omega)
              show _ = _
              rw [wI (by omega) (by omega)]
              omega
            clear hr0 HNev
            have hS0 : (fun W : World => Box W B1 false ((a : Int) * 1000000)) _ := hxz
            refine wp_region_noPanic ?_
            refine wp_region_held_drew (S := fun W : World => Box W B1 false ((a : Int) * 1000000)) (by kernel_rfl) hS0 (fun _ => ?_)
            refine take_at 0 (some 92) (.bool true) rfl rfl (by kernel_rfl) (by kernel_rfl) (by kernel_rfl) (fun _ _ _ h => h) (by rfl) (fun W hSw => by obtain ⟨q1, q2, _, _⟩ := hSw; go_simp) hS0 ?_
            simp only [Act.put, List.setIfInBounds_toArray, List.set_cons_zero, List.set_cons_succ]
            refine take_at 1 (some 93) (.bool true) rfl rfl (by kernel_rfl) (by kernel_rfl) (by kernel_rfl) (fun _ _ _ h => h) (by rfl) (fun W hSw => by obtain ⟨q1, q2, _, _⟩ := hSw; go_simp) hS0 ?_
            simp only [Act.put, List.setIfInBounds_toArray, List.set_cons_zero, List.set_cons_succ]
            refine take_at 2 (some 94) (.agg #[.bool false, .int .i64 ((a : Int) * 1000000)]) rfl rfl (by kernel_rfl) (by kernel_rfl) (by kernel_rfl) (fun _ _ _ h => h) (by rfl) (fun W hSw => by obtain ⟨q1, q2, _, _⟩ := hSw; go_simp) hS0 ?_
            simp only [Act.put, List.setIfInBounds_toArray, List.set_cons_zero, List.set_cons_succ]
            refine take_at 3 (some 95) (.int .i64 a) rfl rfl (by kernel_rfl) (by kernel_rfl) (by kernel_rfl) (fun _ _ _ h => h) (by rfl) (fun W hSw => by obtain ⟨q1, q2, _, _⟩ := hSw; go_simp) hS0 ?_
            simp only [Act.put, List.setIfInBounds_toArray, List.set_cons_zero, List.set_cons_succ]
            refine wpAnyH_ready (rs := [4]) (by kernel_rfl) (by simp) ?_
            refine AllReadyH.cons rfl (fun K hK => ?_) AllReadyH.nil
            go_simp
            refine (hO _).mono ?_
            rintro e w11 ⟨rfl, hb11⟩
            have hx11 := hxz.later hb11
            have hbf1 := Below.chain hbz hb11
            have hS1 := (hx11 : (fun W : World => Box W B1 false ((a : Int) * 1000000)) w11)
            refine hK.out _ _ hS1 (fun _ => ?_)
            clear hK K
            refine take_at 5 (some 97) (.bool true) rfl rfl (by kernel_rfl) (by kernel_rfl) (by kernel_rfl) (fun _ _ _ h => h) (by rfl) (fun W hSw => by obtain ⟨q1, q2, _, _⟩ := hSw; go_simp) hS1 ?_
            simp only [Act.put, List.setIfInBounds_toArray, List.set_cons_zero, List.set_cons_succ]
            refine take_at 6 (some 98) (.bool true) rfl rfl (by kernel_rfl) (by kernel_rfl) (by kernel_rfl) (fun _ _ _ h => h) (by rfl) (fun W hSw => by obtain ⟨q1, q2, _, _⟩ := hSw; go_simp) hS1 ?_
            simp only [Act.put, List.setIfInBounds_toArray, List.set_cons_zero, List.set_cons_succ]
            refine take_at 7 (some 99) (.bool true) rfl rfl (by kernel_rfl) (by kernel_rfl) (by kernel_rfl) (fun _ _ _ h => h) (by rfl) (fun W hSw => by obtain ⟨q1, q2, _, _⟩ := hSw; go_simp) hS1 ?_
            simp only [Act.put, List.setIfInBounds_toArray, List.set_cons_zero, List.set_cons_succ]
            refine take_at 8 (some 100) (.int .i64 r) rfl rfl (by kernel_rfl) (by kernel_rfl) (by kernel_rfl) (fun _ _ _ h => h) (by rfl) (fun W hSw => by obtain ⟨q1, q2, _, _⟩ := hSw; go_simp) hS1 ?_
            simp only [Act.put, List.setIfInBounds_toArray, List.set_cons_zero, List.set_cons_succ]
            refine take_at 9 (some 101) (.bool false) rfl rfl (by kernel_rfl) (by kernel_rfl) (by kernel_rfl) (fun _ _ _ h => h) (by rfl) (fun W hSw => by obtain ⟨q1, q2, _, _⟩ := hSw; go_simp) hS1 ?_
            simp only [Act.put, List.setIfInBounds_toArray, List.set_cons_zero, List.set_cons_succ]
            refine take_at 10 (some 102) (.bool false) rfl rfl (by kernel_rfl) (by kernel_rfl) (by kernel_rfl) (fun _ _ _ h => h) (by rfl) (fun W hSw => by obtain ⟨q1, q2, _, _⟩ := hSw; go_simp) hS1 ?_
            simp only [Act.put, List.setIfInBounds_toArray, List.set_cons_zero, List.set_cons_succ]
            refine take_at 11 (some 103) (.agg #[.bool false, .int .i64 ((a : Int) * 1000000)]) rfl rfl (by kernel_rfl) (by kernel_rfl) (by kernel_rfl) (fun _ _ _ h => h) (by rfl) (fun W hSw => by obtain ⟨q1, q2, _, _⟩ := hSw; go_simp) hS1 ?_
            simp only [Act.put, List.setIfInBounds_toArray, List.set_cons_zero, List.set_cons_succ]
            refine take_at 12 (some 104) (.int .i64 q) rfl rfl (by kernel_rfl) (by kernel_rfl) (by kernel_rfl) (fun _ _ _ h => h) (by rfl) (fun W hSw => by obtain ⟨q1, q2, _, _⟩ := hSw; go_simp) hS1 ?_
            simp only [Act.put, List.setIfInBounds_toArray, List.set_cons_zero, List.set_cons_succ]
            refine take_at 13 (some 105) (.int .i64 fi) rfl rfl (by kernel_rfl) (by kernel_rfl) (by kernel_rfl) (fun _ _ _ h => h) (by rfl) (fun W hSw => by obtain ⟨q1, q2, _, _⟩ := hSw; go_simp) hS1 ?_
            simp only [Act.put, List.setIfInBounds_toArray, List.set_cons_zero, List.set_cons_succ]
            refine take_at 14 (some 106) (.int .i64 a) rfl rfl (by kernel_rfl) (by kernel_rfl) (by kernel_rfl) (fun _ _ _ h => h) (by rfl) (fun W hSw => by go_simp; exact ES.out) hS1 ?_
            simp only [Act.put, List.setIfInBounds_toArray, List.set_cons_zero, List.set_cons_succ]
            refine wpAnyH_ready (rs := [15]) (by kernel_rfl) (by simp) ?_
            refine AllReadyH.cons rfl (fun K hK => ?_) AllReadyH.nil
            go_simp
            refine (hO _).mono ?_
            rintro e w12 ⟨rfl, hb12⟩
            have hx12 := hx11.later hb12
            have hbf := Below.chain hbf1 hb12
            have hS2 := (hx12 : (fun W : World => Box W B1 false ((a : Int) * 1000000)) w12)
            refine hK.out _ _ hS2 (fun _ => ?_)
            clear hK K
            refine take_at 16 (some 108) (.bool true) rfl rfl (by kernel_rfl) (by kernel_rfl) (by kernel_rfl) (fun _ _ _ h => h) (by rfl) (fun W hSw => by obtain ⟨q1, q2, _, _⟩ := hSw; go_simp) hS2 ?_
            simp only [Act.put, List.setIfInBounds_toArray, List.set_cons_zero, List.set_cons_succ]
            refine take_at 17 (some 109) (.bool true) rfl rfl (by kernel_rfl) (by kernel_rfl) (by kernel_rfl) (fun _ _ _ h => h) (by rfl) (fun W hSw => by obtain ⟨q1, q2, _, _⟩ := hSw; go_simp) hS2 ?_
            simp only [Act.put, List.setIfInBounds_toArray, List.set_cons_zero, List.set_cons_succ]
            refine take_at 18 (some 110) (.bool true) rfl rfl (by kernel_rfl) (by kernel_rfl) (by kernel_rfl) (fun _ _ _ h => h) (by rfl) (fun W hSw => by obtain ⟨q1, q2, _, _⟩ := hSw; go_simp) hS2 ?_
            simp only [Act.put, List.setIfInBounds_toArray, List.set_cons_zero, List.set_cons_succ]
            refine take_at 19 (some 4) (.bool true) rfl rfl (by kernel_rfl) (by kernel_rfl) (by kernel_rfl) (fun _ _ _ h => h) (by rfl) (fun W hSw => by obtain ⟨q1, q2, _, _⟩ := hSw; go_simp) hS2 ?_
            simp only [Act.put, List.setIfInBounds_toArray, List.set_cons_zero, List.set_cons_succ]
            refine wpAnyH_done (by kernel_rfl) ?_ _
            refine NoPanic.normal ?_
            go_wp2
            go_ret
            exact ⟨rfl, hbf⟩
end Go.Proofs.Ythcakiibkocheaa
