/- The reference's Without, Cmp: as the program's. -/
import Derived.Test.YtldlhpokkidmlaaGreatDoorRefMore
namespace Go.Proofs.YtldlhpokkidmlaaGreatDoor
open Go.RowKit

set_option maxRecDepth 100000 in
set_option maxHeartbeats 2000000 in
theorem refWithout_any (xa : Option Addr) (n c : Nat) (l : List Pr) (ya : Option Addr) (m d : Nat) (ns : List Str) (w : World) (hn : n ≤ 100000) (hm : m ≤ 9223372036854775807) (hx : Ps w xa n l) (hy : Ss w ya m ns) :
    Calls Tryz.prog 20 #[.slice xa n c, .slice ya m d] w fun e w' => ∃ v, e = .returned v ∧ Own w' w.heap.size v (fWithout l ns) ∧ Below w.heap.size w w' := by
  obtain ⟨hlen, hcell⟩ := hx
  have HL : Hid (l.length = n) := hlen
  clear hlen
  go_enter Tryz.func20, Tryz.ntmps20
  go_wp2_with fail
  go_loopw [6, 5] (fun i u W => ∃ (j : Nat) (v : Value) (out : List Pr), j ≤ n ∧ i = .int .i64 j ∧ v = u ∧ Own W w.heap.size v out ∧ Hid (out = leftUp l ns j) ∧ out.length ≤ j ∧ Below w.heap.size w W) (fun i _ _ => n - (intOf i).toNat)
  case atStart => exact ⟨0, _, [], by omega, rfl, rfl, Own.none _ _, rfl, by simp, Below.refl _ _⟩
  case round =>
    obtain ⟨j, v, out, hj, rfl, rfl, O, HO, hol, hb⟩ := hrel
    by_cases hlt : j < n
    · obtain ⟨b, off, rfl, hc⟩ := hcell (by omega)
      obtain ⟨c0, c1⟩ := hc j hlt
      have k0 := (hb.cell (p := ⟨b, off + j * 2, none⟩) (World.block_lt_of_cell? _ _ c0)).trans c0
      have k1 := (hb.cell (p := ⟨b, off + j * 2 + 1, none⟩) (World.block_lt_of_cell? _ _ c1)).trans c1
      have hlt' : j < l.length := by rw [HL.out]; exact hlt
      have HF : Hid _ := filter_take (f := fun p => !decide (p.1 = nm) && !ns.contains p.1) hlt'
      have hin := fun s => refIn_any ya m d ns s wr hm (hy.later hb)
      clear hc hcell c0 c1 hlt'
      generalize l.getD j ([], []) = p at *
      obtain ⟨p1, p2⟩ := p
      dsimp only at *
      have hin1 := hin p1
      clear hin
      cases hq : hasS ns p1 with
      | true =>
        rw [hq] at hin1
        unfold hasS at hq
        have HR : Hid (out = leftUp l ns (j + 1)) := by
          show _ = _
          unfold leftUp
          rw [HF.out, HO.out]
          simp only [hq, Bool.not_true, Bool.and_false, Bool.false_eq_true, if_false, List.append_nil]
          rfl
        clear HF HO hq
        go_wp2_with fail
        refine hin1.mono ?_
        rintro e w1 ⟨rfl, rfl⟩
        go_wp2_with fail
        go_roundw
        case rel => exact ⟨j + 1, v, out, by omega, by go_num, rfl, O, HR, by omega, hb⟩
        case measure => simp [intOf]; omega
      | false =>
        rw [hq] at hin1
        unfold hasS at hq
        by_cases hnm : p1 = nm
        · have hnm' : (p1 == [95, 95, 110, 97, 109, 101, 95, 95]) = true := by simpa [nm] using hnm
          have hd : decide (p1 = nm) = true := decide_eq_true hnm
          have HR : Hid (out = leftUp l ns (j + 1)) := by
            show _ = _
            unfold leftUp
            rw [HF.out, HO.out]
            simp only [hd, Bool.not_true, Bool.false_and, Bool.false_eq_true, if_false, List.append_nil]
            rfl
          clear HF HO hq hd hnm
          go_wp2_with fail
          refine hin1.mono ?_
          rintro e w1 ⟨rfl, rfl⟩
          go_wp2_with fail
          go_roundw
          case rel => exact ⟨j + 1, v, out, by omega, by go_num, rfl, O, HR, by omega, hb⟩
          case measure => simp [intOf]; omega
        · have hnm' : (p1 == [95, 95, 110, 97, 109, 101, 95, 95]) = false := by simpa [nm] using hnm
          have hd : decide (p1 = nm) = false := decide_eq_false hnm
          have HR : Hid (out ++ [(p1, p2)] = leftUp l ns (j + 1)) := by
            show _ = _
            unfold leftUp
            rw [HF.out, HO.out]
            simp only [hq, hd, Bool.not_false, Bool.and_self, if_true]
            rfl
          clear HF HO hq hd hnm
          have hO2 := O.later (bal (Below.refl _ _) (.cells #[tx p1, tx p2] 43))
          have hP2 := Ps.new wr (p1, p2)
          have hB2 := bal hb (.cells #[tx p1, tx p2] 43)
          go_wp2_with fail
          refine hin1.mono ?_
          rintro e w1 ⟨rfl, rfl⟩
          go_wp2_with (at_builtin; go_must (refine wp_app rfl _ _ rfl w.heap.size v out [(p1, p2)] _ 1 1 rfl rfl hO2 hP2 hB2 (Nat.le_refl _) (by omega) ?_; intro v2 w2 o2 b2))
          go_roundw
          case rel => exact ⟨j + 1, v2, _, by omega, by go_num, rfl, o2, HR, by simp; omega, b2⟩
          case measure => simp [intOf]; omega
    · have HR : Hid (out = fWithout l ns) := by show _ = _; rw [HO.out]; unfold leftUp fWithout; rw [List.take_of_length_le (by rw [HL.out]; omega)]
      clear HO
      rw [HR.out] at O
      go_wp2_with fail
      go_ret
      exact ⟨v, rfl, O, hb⟩

set_option maxHeartbeats 2000000 in
theorem refCmp_any (xa : Option Addr) (n c : Nat) (a : List Pr) (ya : Option Addr) (m d : Nat) (b : List Pr) (w : World) (hn : n ≤ 9223372036854775807) (hm : m ≤ 9223372036854775807) (hx : Ps w xa n a) (hy : Ps w ya m b) :
    Calls Tryz.prog 22 #[.slice xa n c, .slice ya m d] w fun e w' => e = .returned (.int .i64 (fCmp a b)) ∧ Below w.heap.size w w' := by
  obtain ⟨hla, hca⟩ := hx
  obtain ⟨hlb, hcb⟩ := hy
  have HA : Hid (a.length = n) := hla
  have HB : Hid (b.length = m) := hlb
  clear hla hlb
  go_enter Tryz.func22, Tryz.ntmps22
  go_wp2_with fail
  go_loopw [5] (fun i wr => ∃ j : Nat, j ≤ n ∧ j ≤ m ∧ i = .int .i64 j ∧ Hid (fCmp a b = fCmp (a.drop j) (b.drop j)) ∧ Below w.heap.size w wr) (fun i _ => n - (intOf i).toNat)
  case atStart => exact ⟨0, by omega, by omega, rfl, rfl, Below.refl _ _⟩
  case round =>
    obtain ⟨j, hjn, hjm, rfl, HT, hb⟩ := hrel
    by_cases hl1 : j < n
    · by_cases hl2 : j < m
      · obtain ⟨b1, o1, rfl, h1⟩ := hca (by omega)
        obtain ⟨b2, o2, rfl, h2⟩ := hcb (by omega)
        obtain ⟨c0, c1⟩ := h1 j hl1
        obtain ⟨d0, d1⟩ := h2 j hl2
        have k0 := (hb.cell (p := ⟨b1, o1 + j * 2, none⟩) (World.block_lt_of_cell? _ _ c0)).trans c0
        have k1 := (hb.cell (p := ⟨b1, o1 + j * 2 + 1, none⟩) (World.block_lt_of_cell? _ _ c1)).trans c1
        have q0 := (hb.cell (p := ⟨b2, o2 + j * 2, none⟩) (World.block_lt_of_cell? _ _ d0)).trans d0
        have q1 := (hb.cell (p := ⟨b2, o2 + j * 2 + 1, none⟩) (World.block_lt_of_cell? _ _ d1)).trans d1
        have HE : Hid _ := cmp_drop_eq (a := a) (b := b) (j := j) (by rw [HA.out]; exact hl1) (by rw [HB.out]; exact hl2)
        have HN : Hid _ := cmp_drop_ne (a := a) (b := b) (j := j) (by rw [HA.out]; exact hl1) (by rw [HB.out]; exact hl2)
        clear h1 h2 c0 c1 d0 d1 hca hcb
        generalize a.getD j ([], []) = x at *
        generalize b.getD j ([], []) = y at *
        obtain ⟨x1, x2⟩ := x
        obtain ⟨y1, y2⟩ := y
        dsimp only at *
        have hq1 := fun W => less_any x1 y1 W
        have hq2 := fun W => less_any x2 y2 W
        have HP : Hid (pCmp (x1, x2) (y1, y2) = if Lib.compareBytes x1 y1 = 0 then Lib.compareBytes x2 y2 else Lib.compareBytes x1 y1) := rfl
        generalize pCmp (x1, x2) (y1, y2) = pc at *
        generalize Lib.compareBytes x1 y1 = r1 at *
        generalize Lib.compareBytes x2 y2 = r2 at *
        by_cases hr1 : r1 = 0
        · have HP2 : Hid (pc = r2) := by show _ = _; rw [HP.out, if_pos hr1]
          have hr1' : (r1 == 0) = true := by simpa using hr1
          clear HP
          by_cases hr2 : r2 = 0
          · have HR : Hid (fCmp a b = fCmp (a.drop (j + 1)) (b.drop (j + 1))) := by show _ = _; rw [HT.out, HE.out (by rw [HP2.out, hr2])]
            have hr2' : (r2 != 0) = false := by simpa using hr2
            clear HE HN HT HP2 hr1 hr2
            go_wp2_with fail
            go_quiet ((go_at_call 43; exact quiet_eq (hq1 _)))
            have k1' : (wr.drewN nq).cell? ⟨b1, o1 + j * 2 + 1, none⟩ = _ := k1
            have q1' : (wr.drewN nq).cell? ⟨b2, o2 + j * 2 + 1, none⟩ = _ := q1
            have hb' := below_drewN hb nq
            generalize wr.drewN nq = wz at *
            go_wp2_with fail
            go_quiet ((go_at_call 43; exact quiet_eq (hq2 _)))
            go_wp2_with fail
            go_roundw
            case rel => exact ⟨j + 1, by omega, by omega, by go_num, HR, below_drewN hb' _⟩
            case measure => simp [intOf]; omega
          · have HR : Hid (fCmp a b = r2) := by show _ = _; rw [HT.out, HN.out (by rw [HP2.out]; exact hr2), HP2.out]
            have hr2' : (r2 != 0) = true := by simpa using hr2
            clear HE HN HT HP2 hr1 hr2
            go_wp2_with fail
            go_quiet ((go_at_call 43; exact quiet_eq (hq1 _)))
            have k1' : (wr.drewN nq).cell? ⟨b1, o1 + j * 2 + 1, none⟩ = _ := k1
            have q1' : (wr.drewN nq).cell? ⟨b2, o2 + j * 2 + 1, none⟩ = _ := q1
            have hb' := below_drewN hb nq
            generalize wr.drewN nq = wz at *
            go_wp2_with fail
            go_quiet ((go_at_call 43; exact quiet_eq (hq2 _)))
            go_wp2_with fail
            go_ret
            exact ⟨by rw [HR.out]; rfl, below_drewN hb' _⟩
        · have HP2 : Hid (pc = r1) := by show _ = _; rw [HP.out, if_neg hr1]
          have hr1' : (r1 == 0) = false := by simpa using hr1
          have hr1'' : (r1 != 0) = true := by simpa using hr1
          have HR : Hid (fCmp a b = r1) := by show _ = _; rw [HT.out, HN.out (by rw [HP2.out]; exact hr1), HP2.out]
          clear HE HN HT HP2 HP hr1
          go_wp2_with fail
          go_quiet ((go_at_call 43; exact quiet_eq (hq1 _)))
          go_wp2_with fail
          go_ret
          exact ⟨by rw [HR.out]; rfl, below_drewN hb _⟩
      · have HR : Hid (fCmp a b = 1) := by show _ = _; rw [HT.out]; exact cmp_long (by rw [HA.out]; exact hl1) (by rw [HB.out]; omega)
        have e1 : ¬ n < m := by omega
        have e2 : m < n := by omega
        clear HT
        go_wp2_with fail
        go_ret
        exact ⟨by rw [HR.out]; rfl, hb⟩
    · have hjn' : j = n := by omega
      by_cases hl2 : n < m
      · have HR : Hid (fCmp a b = -1) := by show _ = _; rw [HT.out, cmp_end (by rw [HA.out]; omega), if_pos (by rw [HB.out]; omega)]
        clear HT hjn'
        go_wp2_with fail
        go_ret
        exact ⟨by rw [HR.out]; rfl, hb⟩
      · have HR : Hid (fCmp a b = 0) := by show _ = _; rw [HT.out, cmp_end (by rw [HA.out]; omega), if_neg (by rw [HB.out]; omega)]
        have e2 : ¬ m < n := by omega
        clear HT hjn'
        go_wp2_with fail
        go_ret
        exact ⟨by rw [HR.out]; rfl, hb⟩
end Go.Proofs.YtldlhpokkidmlaaGreatDoor
