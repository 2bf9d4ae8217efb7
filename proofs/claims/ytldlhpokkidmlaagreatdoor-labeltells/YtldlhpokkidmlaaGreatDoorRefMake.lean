/- The reference's Make: as the program's. -/
import Derived.Test.YtldlhpokkidmlaaGreatDoorRefWPlain
namespace Go.Proofs.YtldlhpokkidmlaaGreatDoor
open Go.RowKit

theorem fit_sub {l m : List Pr} (h : ∀ x ∈ m, x ∈ l) (hf : Fit l) : Fit m := fun x hx => hf x (h x hx)
set_option maxRecDepth 100000 in
set_option maxHeartbeats 3000000 in
theorem refMake_any (xa : Option Addr) (n c : Nat) (l : List Pr) (w : World) (hn : n ≤ 10000) (hf : Fit l) (hx : Ps w xa n l) :
    Calls Tryz.prog 7 #[.slice xa n c] w fun e w' => ∃ v, e = .returned (.tuple #[v, .int .i64 (makeE l)]) ∧ Own w' w.heap.size v (makeL l) ∧ Below w.heap.size w w' := by
  obtain ⟨hlen, hcell⟩ := hx
  have HL : Hid (l.length = n) := hlen
  clear hlen
  go_enter Tryz.func7, Tryz.ntmps7
  go_wp2_with fail
  go_loopw [4] (fun i wr => ∃ j : Nat, j ≤ n ∧ i = .int .i64 j ∧ Hid (ndUp l j) ∧ Below w.heap.size w wr) (fun i _ => n - (intOf i).toNat)
  case atStart => exact ⟨0, by omega, rfl, (by show ndUp l 0; simp [ndUp]), Below.refl _ _⟩
  case round =>
    obtain ⟨j, hj, rfl, HN, hb⟩ := hrel
    by_cases hlt : j < n
    · have hlt' : j < l.length := by rw [HL.out]; exact hlt
      go_wp2_with fail
      go_loopw [5] (fun i wr => ∃ k : Nat, k ≤ j ∧ i = .int .i64 k ∧ Hid (apUp l j k) ∧ Below w.heap.size w wr) (fun i _ => j - (intOf i).toNat)
      case atStart => exact ⟨0, by omega, rfl, (by show apUp l j 0; intro t ht; omega), hb⟩
      case round =>
        clear hb
        obtain ⟨k, hk, rfl, HP, hb⟩ := hrel
        by_cases hkl : k < j
        · obtain ⟨b, off, rfl, hc⟩ := hcell (by omega)
          obtain ⟨c0, c1⟩ := hc j hlt
          obtain ⟨d0, d1⟩ := hc k (by omega)
          have k0 := (hb.cell (p := ⟨b, off + j * 2, none⟩) (World.block_lt_of_cell? _ _ c0)).trans c0
          have q0 := (hb.cell (p := ⟨b, off + k * 2, none⟩) (World.block_lt_of_cell? _ _ d0)).trans d0
          have HH : Hid _ := nd_hit hkl hlt'
          have HS : Hid _ := ap_step HP.out
          have hkn : k < n := by omega
          clear hc hcell c0 c1 d0 d1 hlt'
          generalize l.getD j ([], []) = x at *
          generalize l.getD k ([], []) = y at *
          obtain ⟨x1, x2⟩ := x
          obtain ⟨y1, y2⟩ := y
          dsimp only at *
          by_cases he : x1 = y1
          · have he' : (x1 == y1) = true := by simpa using he
            obtain ⟨e1, e2⟩ := make_twice (HH.out he)
            have E1 : Hid _ := e1
            have E2 : Hid _ := e2
            clear HH HS HP HN he e1 e2
            go_wp2_with fail
            go_quiet (fail)
            go_wp2_with fail
            go_ret2
            exact ⟨_, by rw [E1.out]; rfl, by rw [E2.out]; exact Own.none _ _, below_drewN hb _⟩
          · have he' : (x1 == y1) = false := by simpa using he
            have HR : Hid _ := HS.out he
            clear HH HS HP HN he
            go_wp2_with fail
            go_quiet (fail)
            go_wp2_with fail
            go_roundw
            case rel => exact ⟨k + 1, by omega, by go_num, HR, below_drewN hb _⟩
            case measure => simp [intOf]; omega
        · have HR : Hid (ndUp l (j + 1)) := nd_step hlt' HN.out (by rw [show j = k from by omega]; rw [show j = k from by omega] at HP; exact HP.out)
          clear HP HN
          go_wp2_with fail
          go_roundw
          case rel => exact ⟨j + 1, by omega, by go_num, HR, hb⟩
          case measure => simp [intOf]; omega
    · have HT : Hid (twice l = false) := nd_all (by rw [HL.out]; omega) HN.out
      clear HN
      go_wp2_with fail
      go_loopw [7, 6] (fun i u W => ∃ (j : Nat) (v : Value) (out : List Pr), j ≤ n ∧ i = .int .i64 j ∧ v = u ∧ Own W w.heap.size v out ∧ Hid (out = fullUp l j) ∧ out.length ≤ j ∧ Below w.heap.size w W) (fun i _ _ => n - (intOf i).toNat)
      case atStart => exact ⟨0, _, [], by omega, rfl, rfl, Own.none _ _, rfl, by simp, hb⟩
      case round =>
        clear hb hlt hj
        obtain ⟨j, v, out, hj, rfl, rfl, O, HO, hol, hb⟩ := hrel
        by_cases hlt : j < n
        · obtain ⟨b, off, rfl, hc⟩ := hcell (by omega)
          obtain ⟨c0, c1⟩ := hc j hlt
          have k0 := (hb.cell (p := ⟨b, off + j * 2, none⟩) (World.block_lt_of_cell? _ _ c0)).trans c0
          have k1 := (hb.cell (p := ⟨b, off + j * 2 + 1, none⟩) (World.block_lt_of_cell? _ _ c1)).trans c1
          have hlt' : j < l.length := by rw [HL.out]; exact hlt
          have HF : Hid _ := filter_take (f := fun p => !p.2.isEmpty) hlt'
          clear hc hcell c0 c1 hlt'
          generalize l.getD j ([], []) = p at *
          obtain ⟨p1, p2⟩ := p
          dsimp only at *
          by_cases hq : p2 = []
          · have hq' : (p2 == []) = true := by simpa using hq
            have HR : Hid (out = fullUp l (j + 1)) := by
              show _ = _
              unfold fullUp
              rw [HF.out, HO.out, hq]
              simp [fullUp]
            clear HF HO hq
            go_wp2_with fail
            go_roundw
            case rel => exact ⟨j + 1, v, out, by omega, by go_num, rfl, O, HR, by omega, hb⟩
            case measure => simp [intOf]; omega
          · have hq' : (p2 == []) = false := by simpa using hq
            have HR : Hid (out ++ [(p1, p2)] = fullUp l (j + 1)) := by
              show _ = _
              unfold fullUp
              rw [HF.out, HO.out]
              simp [hq, fullUp]
            clear HF HO hq
            have hO2 := O.later (bal (Below.refl _ _) (.cells #[tx p1, tx p2] 43))
            have hP2 := Ps.new wr (p1, p2)
            have hB2 := bal hb (.cells #[tx p1, tx p2] 43)
            go_wp2_with (at_builtin; go_must (refine wp_app rfl _ _ rfl w.heap.size v out [(p1, p2)] _ 1 1 rfl rfl hO2 hP2 hB2 (Nat.le_refl _) (by omega) ?_; intro v2 w2 o2 b2))
            go_roundw
            case rel => exact ⟨j + 1, v2, _, by omega, by go_num, rfl, o2, HR, by simp; omega, b2⟩
            case measure => simp [intOf]; omega
        · have HR : Hid (out = full l) := by show _ = _; rw [HO.out]; unfold fullUp full; rw [List.take_of_length_le (by rw [HL.out]; omega)]
          obtain ⟨N, hN⟩ : ∃ N, out.length = N := ⟨_, rfl⟩
          obtain ⟨ao, cap, rfl, hps, hc⟩ := own_slice6 O hN
          have hNn : N ≤ n := by omega
          clear HO O hN hol
          go_wp2_with fail
          refine (refSorted_any ao N cap out wr (by omega) hps).mono ?_
          rintro e w1 ⟨v1, m, rfl, o1, hpm, hsm, b1⟩
          rw [HR.out] at hpm
          obtain ⟨e1, e2⟩ := make_of HT.out hpm hsm
          have E1 : Hid _ := e1
          have E2 : Hid _ := e2
          have hfm : Fit m := fit_sub (fun x hx => (List.mem_filter.1 ((hpm.mem_iff).1 hx)).1) hf
          have hml : m.length ≤ 10000 := by rw [hpm.length_eq]; exact Nat.le_trans (List.length_filter_le _ _) (by rw [HL.out]; exact hn)
          obtain ⟨K, hK⟩ : ∃ K, m.length = K := ⟨_, rfl⟩
          obtain ⟨ao1, cap1, rfl, hps1, hc1⟩ := own_slice6 o1 hK
          rw [hK] at hml
          have B1 := Below.chain hb b1
          have o1' := o1.base hb.size
          clear e1 e2 hpm hsm HT hps hK o1 b1 hb
          have his := refIs_any ao1 K cap1 m w1 (by omega) hfm hps1
          go_wp2_with fail
          refine his.mono ?_
          rintro e w2 ⟨rfl, hb2⟩
          have o2 := o1'.later hb2
          have B2 := Below.chain B1 hb2
          clear his o1' hb2 B1
          cases hI : fIs m with
          | true =>
            rw [hI, if_pos rfl] at E1 E2
            go_wp2_with fail
            go_ret2
            exact ⟨_, by rw [E1.out]; rfl, by rw [E2.out]; exact o2, B2⟩
          | false =>
            rw [hI, if_neg (by simp)] at E1 E2
            go_wp2_with fail
            go_ret2
            exact ⟨_, by rw [E1.out]; rfl, by rw [E2.out]; exact Own.none _ _, B2⟩
end Go.Proofs.YtldlhpokkidmlaaGreatDoor
