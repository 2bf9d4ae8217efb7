/- Texts that the others lean on. -/
import Derived.Test.YtjgckfcocmhnhaaGreatDoorKMC
import Derived.Test.YtjgckfcocmhnhaaGreatDoorKL2
namespace Go.Proofs.YtjgckfcocmhnhaaGreatDoor.Lb
open Go.RowKit
def hasS (ns : List Str) (s : Str) : Bool := ns.contains s
theorem less_any (a b : Str) (w : World) : Calls Tryz.prog 77 #[tx a, tx b] w fun e w' => e = .returned (.int .i64 (Lib.compareBytes a b)) ∧ w = w' := by
 rw [cmpB_eq]
 by_cases h : a < b
 ·
  have h1 : Go.Op.bytesLess a b = true := by rw [less_eq]; exact decide_eq_true h
  rw [if_pos h]
  go_enter Tryz.func77, Tryz.ntmps77
  go_wp2_with fail
  go_ret
  exact ⟨rfl, rfl⟩
 ·
  have h1 : Go.Op.bytesLess a b = false := by rw [less_eq]; exact decide_eq_false h
  rw [if_neg h]
  by_cases k : b < a
  ·
   have h2 : (a == b) = false := by rw [beq_eq_false_iff_ne]; intro e; subst e; exact str_irrefl _ k
   rw [if_pos k]
   go_enter Tryz.func77, Tryz.ntmps77
   go_wp2_with fail
   go_ret
   exact ⟨rfl, rfl⟩
  ·
   have h2 : (a == b) = true := by rw [beq_iff_eq]; exact str_eq h k
   rw [if_neg k]
   go_enter Tryz.func77, Tryz.ntmps77
   go_wp2_with fail
   go_ret
   exact ⟨rfl, rfl⟩
theorem Ps.new (w : World) (p : Pr) : Ps (w.alloc (.cells #[tx p.1, tx p.2] 45)) (some ⟨w.heap.size, 0, none⟩) 1 [p] := by
 have h := Box.new w p
 refine ⟨rfl, fun _ => ⟨_, 0, rfl, fun j hj => ?_⟩⟩
 obtain rfl : j = 0 := by omega
 exact ⟨h.c0, h.c1⟩
def keptUp (l : List Pr) (ns : List Str) (j : Nat) : List Pr := (l.take j).filter fun p => ns.contains p.1
def leftUp (l : List Pr) (ns : List Str) (j : Nat) : List Pr := (l.take j).filter fun p => !decide (p.1 = nm) && !ns.contains p.1
end Go.Proofs.YtjgckfcocmhnhaaGreatDoor.Lb
namespace Go.Proofs.YtjgckfcocmhnhaaGreatDoor.Lb
open Go.RowKit
set_option maxHeartbeats 2000000 in
theorem refCmp_any (xa : Option Addr) (n c : Nat) (a : List Pr) (ya : Option Addr) (m d : Nat) (b : List Pr) (w : World) (hn : n ≤ 9223372036854775807) (hm : m ≤ 9223372036854775807) (hx : Ps w xa n a) (hy : Ps w ya m b) :
  Calls Tryz.prog 43 #[.slice xa n c, .slice ya m d] w fun e w' => e = .returned (.int .i64 (fCmp a b)) ∧ Below w.heap.size w w' := by
 obtain ⟨hla, hca⟩ := hx
 obtain ⟨hlb, hcb⟩ := hy
 have HA : Hid (a.length = n) := hla
 have HB : Hid (b.length = m) := hlb
 clear hla hlb
 go_enter Tryz.func43, Tryz.ntmps43
 go_wp2_with fail
 go_loopw [5] (fun i wr => ∃ j : Nat, j ≤ n ∧ j ≤ m ∧ i = .int .i64 j ∧ Hid (fCmp a b = fCmp (a.drop j) (b.drop j)) ∧ Below w.heap.size w wr) (fun i _ => n - (intOf i).toNat)
 case atStart => exact ⟨0, by omega, by omega, rfl, rfl, Below.refl _ _⟩
 case round =>
  obtain ⟨j, hjn, hjm, rfl, HT, hb⟩ := hrel
  by_cases hl1 : j < n
  ·
   by_cases hl2 : j < m
   ·
    obtain ⟨b1, o1, rfl, h1⟩ := hca (by omega)
    obtain ⟨b2, o2, rfl, h2⟩ := hcb (by omega)
    obtain ⟨c0, c1⟩ := h1 j hl1
    obtain ⟨d0, d1⟩ := h2 j hl2
    have k0 := (hb.cell (p := ⟨b1, o1 + j * 2, none⟩) (World.block_lt_of_cell? _ _ c0)).trans c0
    have k1 := (hb.cell (p := ⟨b1, o1 + j * 2 + 1, none⟩) (World.block_lt_of_cell? _ _ c1)).trans c1
    have q0 := (hb.cell (p := ⟨b2, o2 + j * 2, none⟩) (World.block_lt_of_cell? _ _ d0)).trans d0
    have q1 := (hb.cell (p := ⟨b2, o2 + j * 2 + 1, none⟩) (World.block_lt_of_cell? _ _ d1)).trans d1
    have HE : Hid _ := cmp_drop_eq (a := a) (b := b) (j := j) (by rw [HA.out]; exact hl1) (by rw [HB.out]; exact hl2)
    have HN : Hid _ := cmp_drop_ne (a := a) (b := b) (j := j) (by rw [HA.out]; exact hl1) (by rw [HB.out]; exact hl2)
    clear h1 h2 c0 c1 d0 d1 hca hcb
    generalize a.getD j ([], []) = x at *
    generalize b.getD j ([], []) = y at *
    obtain ⟨x1, x2⟩ := x
    obtain ⟨y1, y2⟩ := y
    dsimp only at *
    have hq1 := fun W => less_any x1 y1 W
    have hq2 := fun W => less_any x2 y2 W
    have HP : Hid (pCmp (x1, x2) (y1, y2) = if Lib.compareBytes x1 y1 = 0 then Lib.compareBytes x2 y2 else Lib.compareBytes x1 y1) := rfl
    generalize pCmp (x1, x2) (y1, y2) = pc at *
    generalize Lib.compareBytes x1 y1 = r1 at *
    generalize Lib.compareBytes x2 y2 = r2 at *
    by_cases hr1 : r1 = 0
    ·
     have HP2 : Hid (pc = r2) := by show _ = _; rw [HP.out, if_pos hr1]
     have hr1' : (r1 == 0) = true := by simpa using hr1
     clear HP
     by_cases hr2 : r2 = 0
     ·
      have HR : Hid (fCmp a b = fCmp (a.drop (j + 1)) (b.drop (j + 1))) := by show _ = _; rw [HT.out, HE.out (by rw [HP2.out, hr2])]
      have hr2' : (r2 != 0) = false := by simpa using hr2
      clear HE HN HT HP2 hr1 hr2
      go_wp2_with fail
      go_quiet ((go_at_call 77; exact quiet_eq (hq1 _)))
      have k1' : (wr.drewN nq).cell? ⟨b1, o1 + j * 2 + 1, none⟩ = _ := k1
      have q1' : (wr.drewN nq).cell? ⟨b2, o2 + j * 2 + 1, none⟩ = _ := q1
      have hb' := below_drewN hb nq
      generalize wr.drewN nq = wz at *
      go_wp2_with fail
      go_quiet ((go_at_call 77; exact quiet_eq (hq2 _)))
      go_wp2_with fail
      go_roundw
      case rel => exact ⟨j + 1, by omega, by omega, by go_num, HR, below_drewN hb' _⟩
      case measure => simp [intOf]; omega
     ·
      have HR : Hid (fCmp a b = r2) := by show _ = _; rw [HT.out, HN.out (by rw [HP2.out]; exact hr2), HP2.out]
      have hr2' : (r2 != 0) = true := by simpa using hr2
      clear HE HN HT HP2 hr1 hr2
      go_wp2_with fail
      go_quiet ((go_at_call 77; exact quiet_eq (hq1 _)))
      have k1' : (wr.drewN nq).cell? ⟨b1, o1 + j * 2 + 1, none⟩ = _ := k1
      have q1' : (wr.drewN nq).cell? ⟨b2, o2 + j * 2 + 1, none⟩ = _ := q1
      have hb' := below_drewN hb nq
      generalize wr.drewN nq = wz at *
      go_wp2_with fail
      go_quiet ((go_at_call 77; exact quiet_eq (hq2 _)))
      go_wp2_with fail
      go_ret
      exact ⟨by rw [HR.out]; rfl, below_drewN hb' _⟩
    ·
     have HP2 : Hid (pc = r1) := by show _ = _; rw [HP.out, if_neg hr1]
     have hr1' : (r1 == 0) = false := by simpa using hr1
     have hr1'' : (r1 != 0) = true := by simpa using hr1
     have HR : Hid (fCmp a b = r1) := by show _ = _; rw [HT.out, HN.out (by rw [HP2.out]; exact hr1), HP2.out]
     clear HE HN HT HP2 HP hr1
     go_wp2_with fail
     go_quiet ((go_at_call 77; exact quiet_eq (hq1 _)))
     go_wp2_with fail
     go_ret
     exact ⟨by rw [HR.out]; rfl, below_drewN hb _⟩
   ·
    have HR : Hid (fCmp a b = 1) := by show _ = _; rw [HT.out]; exact cmp_long (by rw [HA.out]; exact hl1) (by rw [HB.out]; omega)
    have e1 : ¬ n < m := by omega
    have e2 : m < n := by omega
    clear HT
    go_wp2_with fail
    go_ret
    exact ⟨by rw [HR.out]; rfl, hb⟩
  ·
   have hjn' : j = n := by omega
   by_cases hl2 : n < m
   ·
    have HR : Hid (fCmp a b = -1) := by show _ = _; rw [HT.out, cmp_end (by rw [HA.out]; omega), if_pos (by rw [HB.out]; omega)]
    clear HT hjn'
    go_wp2_with fail
    go_ret
    exact ⟨by rw [HR.out]; rfl, hb⟩
   ·
    have HR : Hid (fCmp a b = 0) := by show _ = _; rw [HT.out, cmp_end (by rw [HA.out]; omega), if_neg (by rw [HB.out]; omega)]
    have e2 : ¬ m < n := by omega
    clear HT hjn'
    go_wp2_with fail
    go_ret
    exact ⟨by rw [HR.out]; rfl, hb⟩
end Go.Proofs.YtjgckfcocmhnhaaGreatDoor.Lb
