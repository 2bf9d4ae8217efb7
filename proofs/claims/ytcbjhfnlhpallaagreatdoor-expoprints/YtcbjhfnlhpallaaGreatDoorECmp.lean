/- Cmp, Same of the reference; same, sames: each for every samples. -/
import Derived.Test.YtcbjhfnlhpallaaGreatDoorEView
namespace Go.Proofs.YtcbjhfnlhpallaaGreatDoor
open Go.RowKit

theorem less_any (a b : Str) (w : World) : Calls Tryz.prog 114 #[tx a, tx b] w fun e w' => e = .returned (.int .i64 (Lib.compareBytes a b)) ∧ w = w' := by
  rw [cmpB_eq]
  by_cases h : a < b
  · have h1 : Go.Op.bytesLess a b = true := by rw [less_eq]; exact decide_eq_true h
    rw [if_pos h]
    go_enter Tryz.func114, Tryz.ntmps114
    go_wp2_with fail
    go_ret
    exact ⟨rfl, rfl⟩
  · have h1 : Go.Op.bytesLess a b = false := by rw [less_eq]; exact decide_eq_false h
    rw [if_neg h]
    by_cases k : b < a
    · have h2 : (a == b) = false := by rw [beq_eq_false_iff_ne]; intro e; subst e; exact str_irrefl _ k
      rw [if_pos k]
      go_enter Tryz.func114, Tryz.ntmps114
      go_wp2_with fail
      go_ret
      exact ⟨rfl, rfl⟩
    · have h2 : (a == b) = true := by rw [beq_iff_eq]; exact str_eq h k
      rw [if_neg k]
      go_enter Tryz.func114, Tryz.ntmps114
      go_wp2_with fail
      go_ret
      exact ⟨rfl, rfl⟩
set_option maxHeartbeats 2000000 in
theorem refCmp_any (xa : Option Addr) (n c : Nat) (a : List Pr) (ya : Option Addr) (m d : Nat) (b : List Pr) (w : World) (hn : n ≤ 9223372036854775807) (hm : m ≤ 9223372036854775807) (hx : Ps w xa n a) (hy : Ps w ya m b) :
    Calls Tryz.prog 82 #[.slice xa n c, .slice ya m d] w fun e w' => e = .returned (.int .i64 (fCmp a b)) ∧ Below w.heap.size w w' := by
  obtain ⟨hla, hca⟩ := hx
  obtain ⟨hlb, hcb⟩ := hy
  have HA : Hid (a.length = n) := hla
  have HB : Hid (b.length = m) := hlb
  clear hla hlb
  go_enter Tryz.func82, Tryz.ntmps82
  go_wp2_with fail
  go_loopw [5] (fun i wr => ∃ j : Nat, j ≤ n ∧ j ≤ m ∧ i = .int .i64 j ∧ Hid (fCmp a b = fCmp (a.drop j) (b.drop j)) ∧ Below w.heap.size w wr) (fun i _ => n - (intOf i).toNat)
  case atStart => exact ⟨0, by omega, by omega, rfl, rfl, Below.refl _ _⟩
  case round =>
    obtain ⟨j, hjn, hjm, rfl, HT, hb⟩ := hrel
    by_cases hl1 : j < n
    · by_cases hl2 : j < m
      · obtain ⟨b1, o1, rfl, h1⟩ := hca (by omega)
        obtain ⟨b2, o2, rfl, h2⟩ := hcb (by omega)
        obtain ⟨c0, c1⟩ := h1 j hl1
        obtain ⟨d0, d1⟩ := h2 j hl2
        have k0 := (hb.cell (p := ⟨b1, o1 + j * 2, none⟩) (World.block_lt_of_cell? _ _ c0)).trans c0
        have k1 := (hb.cell (p := ⟨b1, o1 + j * 2 + 1, none⟩) (World.block_lt_of_cell? _ _ c1)).trans c1
        have q0 := (hb.cell (p := ⟨b2, o2 + j * 2, none⟩) (World.block_lt_of_cell? _ _ d0)).trans d0
        have q1 := (hb.cell (p := ⟨b2, o2 + j * 2 + 1, none⟩) (World.block_lt_of_cell? _ _ d1)).trans d1
        have HE : Hid _ := cmp_drop_eq (a := a) (b := b) (j := j) (by rw [HA.out]; exact hl1) (by rw [HB.out]; exact hl2)
        have HN : Hid _ := cmp_drop_ne (a := a) (b := b) (j := j) (by rw [HA.out]; exact hl1) (by rw [HB.out]; exact hl2)
        clear h1 h2 c0 c1 d0 d1 hca hcb
        generalize a.getD j ([], []) = x at *
        generalize b.getD j ([], []) = y at *
        obtain ⟨x1, x2⟩ := x
        obtain ⟨y1, y2⟩ := y
        dsimp only at *
        have hq1 := fun W => less_any x1 y1 W
        have hq2 := fun W => less_any x2 y2 W
        have HP : Hid (pCmp (x1, x2) (y1, y2) = if Lib.compareBytes x1 y1 = 0 then Lib.compareBytes x2 y2 else Lib.compareBytes x1 y1) := rfl
        generalize pCmp (x1, x2) (y1, y2) = pc at *
        generalize Lib.compareBytes x1 y1 = r1 at *
        generalize Lib.compareBytes x2 y2 = r2 at *
        by_cases hr1 : r1 = 0
        · have HP2 : Hid (pc = r2) := by show _ = _; rw [HP.out, if_pos hr1]
          have hr1' : (r1 == 0) = true := by simpa using hr1
          clear HP
          by_cases hr2 : r2 = 0
          · have HR : Hid (fCmp a b = fCmp (a.drop (j + 1)) (b.drop (j + 1))) := by show _ = _; rw [HT.out, HE.out (by rw [HP2.out, hr2])]
            have hr2' : (r2 != 0) = false := by simpa using hr2
            clear HE HN HT HP2 hr1 hr2
            go_wp2_with fail
            go_quiet ((go_at_call 114; exact quiet_eq (hq1 _)))
            have k1' : (wr.drewN nq).cell? ⟨b1, o1 + j * 2 + 1, none⟩ = _ := k1
            have q1' : (wr.drewN nq).cell? ⟨b2, o2 + j * 2 + 1, none⟩ = _ := q1
            have hb' := below_drewN hb nq
            generalize wr.drewN nq = wz at *
            go_wp2_with fail
            go_quiet ((go_at_call 114; exact quiet_eq (hq2 _)))
            go_wp2_with fail
            go_roundw
            case rel => exact ⟨j + 1, by omega, by omega, by go_num, HR, below_drewN hb' _⟩
            case measure => simp [intOf]; omega
          · have HR : Hid (fCmp a b = r2) := by show _ = _; rw [HT.out, HN.out (by rw [HP2.out]; exact hr2), HP2.out]
            have hr2' : (r2 != 0) = true := by simpa using hr2
            clear HE HN HT HP2 hr1 hr2
            go_wp2_with fail
            go_quiet ((go_at_call 114; exact quiet_eq (hq1 _)))
            have k1' : (wr.drewN nq).cell? ⟨b1, o1 + j * 2 + 1, none⟩ = _ := k1
            have q1' : (wr.drewN nq).cell? ⟨b2, o2 + j * 2 + 1, none⟩ = _ := q1
            have hb' := below_drewN hb nq
            generalize wr.drewN nq = wz at *
            go_wp2_with fail
            go_quiet ((go_at_call 114; exact quiet_eq (hq2 _)))
            go_wp2_with fail
            go_ret
            exact ⟨by rw [HR.out]; rfl, below_drewN hb' _⟩
        · have HP2 : Hid (pc = r1) := by show _ = _; rw [HP.out, if_neg hr1]
          have hr1' : (r1 == 0) = false := by simpa using hr1
          have hr1'' : (r1 != 0) = true := by simpa using hr1
          have HR : Hid (fCmp a b = r1) := by show _ = _; rw [HT.out, HN.out (by rw [HP2.out]; exact hr1), HP2.out]
          clear HE HN HT HP2 HP hr1
          go_wp2_with fail
          go_quiet ((go_at_call 114; exact quiet_eq (hq1 _)))
          go_wp2_with fail
          go_ret
          exact ⟨by rw [HR.out]; rfl, below_drewN hb _⟩
      · have HR : Hid (fCmp a b = 1) := by show _ = _; rw [HT.out]; exact cmp_long (by rw [HA.out]; exact hl1) (by rw [HB.out]; omega)
        have e1 : ¬ n < m := by omega
        have e2 : m < n := by omega
        clear HT
        go_wp2_with fail
        go_ret
        exact ⟨by rw [HR.out]; rfl, hb⟩
    · have hjn' : j = n := by omega
      by_cases hl2 : n < m
      · have HR : Hid (fCmp a b = -1) := by show _ = _; rw [HT.out, cmp_end (by rw [HA.out]; omega), if_pos (by rw [HB.out]; omega)]
        clear HT hjn'
        go_wp2_with fail
        go_ret
        exact ⟨by rw [HR.out]; rfl, hb⟩
      · have HR : Hid (fCmp a b = 0) := by show _ = _; rw [HT.out, cmp_end (by rw [HA.out]; omega), if_neg (by rw [HB.out]; omega)]
        have e2 : ¬ m < n := by omega
        clear HT hjn'
        go_wp2_with fail
        go_ret
        exact ⟨by rw [HR.out]; rfl, hb⟩
theorem refSame_any (xa : Option Addr) (n c : Nat) (a : List Pr) (ya : Option Addr) (m d : Nat) (b : List Pr) (w : World) (hn : n ≤ 9223372036854775807) (hm : m ≤ 9223372036854775807) (hx : Ps w xa n a) (hy : Ps w ya m b) :
    Calls Tryz.prog 43 #[.slice xa n c, .slice ya m d] w fun e w' => e = .returned (.bool (decide (a = b))) ∧ Below w.heap.size w w' := by
  have hc := refCmp_any xa n c a ya m d b w hn hm hx hy
  by_cases e : a = b
  · have e0 : fCmp a b = 0 := (fCmp_zero a b).2 e
    have HD : Hid (decide (a = b) = true) := decide_eq_true e
    rw [e0] at hc
    clear e e0
    go_enter Tryz.func43, Tryz.ntmps43
    go_wp2_with fail
    refine hc.mono ?_
    rintro e w1 ⟨rfl, hb1⟩
    go_wp2
    go_ret
    exact ⟨by rw [HD.out]; rfl, hb1⟩
  · have e0 : (fCmp a b == 0) = false := beq_eq_false_iff_ne.2 (fun h => e ((fCmp_zero a b).1 h))
    have HD : Hid (decide (a = b) = false) := decide_eq_false e
    generalize fCmp a b = x at *
    clear e
    go_enter Tryz.func43, Tryz.ntmps43
    go_wp2_with fail
    refine hc.mono ?_
    rintro e w1 ⟨rfl, hb1⟩
    go_wp2
    go_ret
    exact ⟨by rw [HD.out]; simp, hb1⟩
/-! ### same -/
theorem fields32 : Tryz.prog.underlying 32 = some (.struct (Tryz.prog.fieldsOf 32)) := by kernel_rfl
theorem stood32 : Tryz.prog.stoodInHeld 32 = false := by kernel_rfl
theorem guard32 : Tryz.prog.eqGuardType Tryz.prog.depth 32 = false := by kernel_rfl
theorem eqIn_num (o p : Bool) (n m : Int) (w : World) : (Op.equalIn 10000 32 (.agg #[.bool o, .int .i64 n]) (.agg #[.bool p, .int .i64 m])).run Tryz.prog w = .ok (decide (o = p ∧ n = m)) w := by
  have u4 := Tryz.underlying4
  have a4 := Tryz.isAgg4
  have z4 := Tryz.sizeOf4
  have u2 := Tryz.underlying2
  have a2 := Tryz.isAgg2
  have z2 := Tryz.sizeOf2
  rw [show (10000 : Nat) = 9999 + 1 from rfl, run_equalIn_agg w 9999 32 _ _ fields32 stood32]
  simp only [Program.fieldsOf, Tryz.underlying32]
  go_simp
  by_cases h1 : o = p <;> by_cases h2 : n = m <;> simp [h1, h2]
theorem eql_num (o p : Bool) (n m : Int) (w : World) : (binOp .eql 32 (.agg #[.bool o, .int .i64 n]) (.agg #[.bool p, .int .i64 m])).run Tryz.prog w = .ok (.bool (decide (o = p ∧ n = m))) w := by
  rw [run_eql_struct, eqIn_num]
  rfl
theorem guard_num (x y : Operand) (xs ys : Array Value) (w : World) : (eqGuard .eql 32 x y (.agg xs) (.agg ys)).run Tryz.prog w = .ok () w := run_eqGuard_agg w .eql 32 x y xs ys guard32
theorem two_boxes (w : World) (la ya : Value) (x y : Scr) : BoxX ((w.alloc (.cells #[la, .bool x.ov, .int .i64 x.n, .int .i64 x.t, .bool x.has, .int .i64 x.kind] 34)).alloc (.cells #[ya, .bool y.ov, .int .i64 y.n, .int .i64 y.t, .bool y.has, .int .i64 y.kind] 34)) w.heap.size la x ∧ BoxX ((w.alloc (.cells #[la, .bool x.ov, .int .i64 x.n, .int .i64 x.t, .bool x.has, .int .i64 x.kind] 34)).alloc (.cells #[ya, .bool y.ov, .int .i64 y.n, .int .i64 y.t, .bool y.has, .int .i64 y.kind] 34)) (w.heap.size + 1) ya y := by
  have hs : (w.alloc (.cells #[la, .bool x.ov, .int .i64 x.n, .int .i64 x.t, .bool x.has, .int .i64 x.kind] 34)).heap.size = w.heap.size + 1 := by simp
  refine ⟨(BoxX.new w la x).later (bal (Below.refl _ _) _), ?_⟩
  rw [← hs]
  exact BoxX.new _ ya y
set_option maxRecDepth 20000 in
set_option maxHeartbeats 4000000 in
theorem same_any (xa : Option Addr) (c : Nat) (x : Scr) (ya : Option Addr) (d : Nat) (y : Scr) (w : World) (hn : x.ls.length ≤ 1000000) (hm : y.ls.length ≤ 1000000) (hx : Ps w xa x.ls.length x.ls) (hy : Ps w ya y.ls.length y.ls) :
    Calls Tryz.prog 15 #[.agg #[.slice xa x.ls.length c, .bool x.ov, .int .i64 x.n, .int .i64 x.t, .bool x.has, .int .i64 x.kind], .agg #[.slice ya y.ls.length d, .bool y.ov, .int .i64 y.n, .int .i64 y.t, .bool y.has, .int .i64 y.kind]] w fun e w' => e = .returned (.bool (eqS x y)) ∧ Below w.heap.size w w' := by
  have hb0 : Below w.heap.size w ((w.alloc (.cells #[.slice xa x.ls.length c, .bool x.ov, .int .i64 x.n, .int .i64 x.t, .bool x.has, .int .i64 x.kind] 34)).alloc (.cells #[.slice ya y.ls.length d, .bool y.ov, .int .i64 y.n, .int .i64 y.t, .bool y.has, .int .i64 y.kind] 34)) := bal (bal (Below.refl _ _) _) _
  have hS := refSame_any xa x.ls.length c x.ls ya y.ls.length d y.ls _ (by omega) (by omega) (hx.later hb0) (hy.later hb0)
  obtain ⟨h1, h2⟩ := two_boxes w (.slice xa x.ls.length c) (.slice ya y.ls.length d) x y
  have hq := eql_num x.ov y.ov x.n y.n
  have hg := guard_num
  unfold eqS
  clear hx hy
  generalize decide (x.ls = y.ls) = b1 at *
  generalize decide (x.ov = y.ov ∧ x.n = y.n) = b2 at *
  cases b1 with
  | false =>
    have HR : Hid ((false && (b2 && (decide (x.t = y.t) && (decide (x.has = y.has) && decide (x.kind = y.kind))))) = false) := by show _ = _; rfl
    generalize (false && (b2 && (decide (x.t = y.t) && (decide (x.has = y.has) && decide (x.kind = y.kind))))) = z at *
    go_enter Tryz.func15, Tryz.ntmps15
    go_wp2_with fail
    generalize (w.alloc (.cells _ 34)).alloc (.cells _ 34) = w0 at *
    refine hS.mono ?_
    rintro e w1 ⟨rfl, hb1⟩
    obtain ⟨a0, a1, a2, a3, a4, a5, _⟩ := h1.later hb1
    obtain ⟨d0, d1, d2, d3, d4, d5, _⟩ := h2.later hb1
    go_wp2
    go_ret
    exact ⟨by rw [HR.out]; rfl, Below.chain hb0 hb1⟩
  | true =>
    cases b2 with
    | false =>
      have HR : Hid ((true && (false && (decide (x.t = y.t) && (decide (x.has = y.has) && decide (x.kind = y.kind))))) = false) := by show _ = _; rfl
      generalize (true && (false && (decide (x.t = y.t) && (decide (x.has = y.has) && decide (x.kind = y.kind))))) = z at *
      go_enter Tryz.func15, Tryz.ntmps15
      go_wp2_with fail
      generalize (w.alloc (.cells _ 34)).alloc (.cells _ 34) = w0 at *
      refine hS.mono ?_
      rintro e w1 ⟨rfl, hb1⟩
      obtain ⟨a0, a1, a2, a3, a4, a5, _⟩ := h1.later hb1
      obtain ⟨d0, d1, d2, d3, d4, d5, _⟩ := h2.later hb1
      go_wp2
      go_ret
      exact ⟨by rw [HR.out]; rfl, Below.chain hb0 hb1⟩
    | true =>
      by_cases h3 : x.t = y.t
      · by_cases h4 : x.has = y.has
        · by_cases h5 : x.kind = y.kind
          · have w3 : (x.t == y.t) = true := beq_iff_eq.2 h3
            have w4 : (x.has == y.has) = true := beq_iff_eq.2 h4
            have w5 : (x.kind == y.kind) = true := beq_iff_eq.2 h5
            have HR : Hid ((true && (true && (decide (x.t = y.t) && (decide (x.has = y.has) && decide (x.kind = y.kind))))) = true) := by show _ = _; simp [h3, h4, h5]
            generalize (true && (true && (decide (x.t = y.t) && (decide (x.has = y.has) && decide (x.kind = y.kind))))) = z at *
            clear h3 h4 h5
            go_enter Tryz.func15, Tryz.ntmps15
            go_wp2_with fail
            generalize (w.alloc (.cells _ 34)).alloc (.cells _ 34) = w0 at *
            refine hS.mono ?_
            rintro e w1 ⟨rfl, hb1⟩
            obtain ⟨a0, a1, a2, a3, a4, a5, _⟩ := h1.later hb1
            obtain ⟨d0, d1, d2, d3, d4, d5, _⟩ := h2.later hb1
            go_wp2
            go_ret
            exact ⟨by rw [HR.out]; rfl, Below.chain hb0 hb1⟩
          · have w3 : (x.t == y.t) = true := beq_iff_eq.2 h3
            have w4 : (x.has == y.has) = true := beq_iff_eq.2 h4
            have w5 : (x.kind == y.kind) = false := beq_eq_false_iff_ne.2 h5
            have HR : Hid ((true && (true && (decide (x.t = y.t) && (decide (x.has = y.has) && decide (x.kind = y.kind))))) = false) := by show _ = _; simp [h5]
            generalize (true && (true && (decide (x.t = y.t) && (decide (x.has = y.has) && decide (x.kind = y.kind))))) = z at *
            clear h3 h4 h5
            go_enter Tryz.func15, Tryz.ntmps15
            go_wp2_with fail
            generalize (w.alloc (.cells _ 34)).alloc (.cells _ 34) = w0 at *
            refine hS.mono ?_
            rintro e w1 ⟨rfl, hb1⟩
            obtain ⟨a0, a1, a2, a3, a4, a5, _⟩ := h1.later hb1
            obtain ⟨d0, d1, d2, d3, d4, d5, _⟩ := h2.later hb1
            go_wp2
            go_ret
            exact ⟨by rw [HR.out]; rfl, Below.chain hb0 hb1⟩
        · have w3 : (x.t == y.t) = true := beq_iff_eq.2 h3
          have w4 : (x.has == y.has) = false := beq_eq_false_iff_ne.2 h4
          have HR : Hid ((true && (true && (decide (x.t = y.t) && (decide (x.has = y.has) && decide (x.kind = y.kind))))) = false) := by show _ = _; simp [h4]
          generalize (true && (true && (decide (x.t = y.t) && (decide (x.has = y.has) && decide (x.kind = y.kind))))) = z at *
          clear h3 h4
          go_enter Tryz.func15, Tryz.ntmps15
          go_wp2_with fail
          generalize (w.alloc (.cells _ 34)).alloc (.cells _ 34) = w0 at *
          refine hS.mono ?_
          rintro e w1 ⟨rfl, hb1⟩
          obtain ⟨a0, a1, a2, a3, a4, a5, _⟩ := h1.later hb1
          obtain ⟨d0, d1, d2, d3, d4, d5, _⟩ := h2.later hb1
          go_wp2
          go_ret
          exact ⟨by rw [HR.out]; rfl, Below.chain hb0 hb1⟩
      · have w3 : (x.t == y.t) = false := beq_eq_false_iff_ne.2 h3
        have HR : Hid ((true && (true && (decide (x.t = y.t) && (decide (x.has = y.has) && decide (x.kind = y.kind))))) = false) := by show _ = _; simp [h3]
        generalize (true && (true && (decide (x.t = y.t) && (decide (x.has = y.has) && decide (x.kind = y.kind))))) = z at *
        clear h3
        go_enter Tryz.func15, Tryz.ntmps15
        go_wp2_with fail
        generalize (w.alloc (.cells _ 34)).alloc (.cells _ 34) = w0 at *
        refine hS.mono ?_
        rintro e w1 ⟨rfl, hb1⟩
        obtain ⟨a0, a1, a2, a3, a4, a5, _⟩ := h1.later hb1
        obtain ⟨d0, d1, d2, d3, d4, d5, _⟩ := h2.later hb1
        go_wp2
        go_ret
        exact ⟨by rw [HR.out]; rfl, Below.chain hb0 hb1⟩

/-! ### sames -/
def eqL (a b : List Scr) : Bool := decide (a.length = b.length) && (List.range a.length).all fun j => eqS (a.getD j scr0) (b.getD j scr0)
theorem eqL_iff (a b : List Scr) : eqL a b = true ↔ a = b := by
  unfold eqL
  rw [Bool.and_eq_true, decide_eq_true_iff, List.all_eq_true]
  constructor
  · rintro ⟨h1, h2⟩
    apply List.ext_getElem h1
    intro j hj hj'
    have := (eqS_iff _ _).1 (h2 j (List.mem_range.2 hj))
    simpa [List.getD, List.getElem?_eq_getElem hj, List.getElem?_eq_getElem hj'] using this
  · rintro rfl
    exact ⟨rfl, fun j _ => (eqS_iff _ _).2 rfl⟩
theorem eqL_no {a b : List Scr} {j : Nat} (h : eqS (a.getD j scr0) (b.getD j scr0) = false) : eqL a b = false := by
  cases e : eqL a b with
  | false => rfl
  | true =>
    rw [eqL_iff] at e
    subst e
    rw [(eqS_iff _ _).2 rfl] at h
    cases h
theorem eqL_len {a b : List Scr} (h : a.length ≠ b.length) : eqL a b = false := by unfold eqL; rw [decide_eq_false h]; rfl
def upTo (a b : List Scr) (j : Nat) : Prop := ∀ i, i < j → eqS (a.getD i scr0) (b.getD i scr0) = true
theorem eqL_all {a b : List Scr} (h : a.length = b.length) (hu : upTo a b a.length) : eqL a b = true := by
  unfold eqL
  rw [decide_eq_true h, Bool.true_and, List.all_eq_true]
  exact fun j hj => hu j (List.mem_range.1 hj)
def Thin (l : List Scr) : Prop := ∀ x ∈ l, x.ls.length ≤ 1000000
theorem Thin.at {l : List Scr} (h : Thin l) (j : Nat) : (l.getD j scr0).ls.length ≤ 1000000 := by
  by_cases hj : j < l.length
  · exact h _ (by simp [List.getD, List.getElem?_eq_getElem hj])
  · rw [List.getD, List.getElem?_eq_none (by omega)]
    simp [scr0]
set_option maxRecDepth 20000 in
set_option maxHeartbeats 4000000 in
theorem sames_any (xa : Option Addr) (n c : Nat) (a : List Scr) (ya : Option Addr) (m d : Nat) (b : List Scr) (w : World) (hn : n ≤ 9223372036854775807) (hta : Thin a) (htb : Thin b) (hx : Xs w xa n a) (hy : Xs w ya m b) :
    Calls Tryz.prog 14 #[.slice xa n c, .slice ya m d] w fun e w' => e = .returned (.bool (eqL a b)) ∧ Below w.heap.size w w' := by
  obtain ⟨hla, hca⟩ := hx
  obtain ⟨hlb, hcb⟩ := hy
  by_cases hnm : n = m
  · subst hnm
    have HLA : Hid (a.length = n) := hla
    have HLB : Hid (b.length = n) := hlb
    have HA : Hid (upTo a b n → eqL a b = true) := fun h => eqL_all (by rw [hla, hlb]) (by rw [hla]; exact h)
    have HN : Hid (∀ j, j < n → eqS (a.getD j scr0) (b.getD j scr0) = false → eqL a b = false) := fun j _ h => eqL_no h
    have hnn : ((n : Int) != n) = false := by simp
    clear hla hlb
    generalize eqL a b = R at *
    go_enter Tryz.func14, Tryz.ntmps14
    go_wp2_with fail
    go_loopw [5] (fun i wr => ∃ j : Nat, j ≤ n ∧ i = .int .i64 j ∧ Hid (upTo a b j) ∧ Below w.heap.size w wr) (fun i _ => n - (intOf i).toNat)
    case atStart => exact ⟨0, by omega, rfl, fun i hi => by omega, Below.refl _ _⟩
    case round =>
      obtain ⟨j, hj, rfl, HU, hb⟩ := hrel
      by_cases hlt : j < n
      · obtain ⟨b1, o1, rfl, h1⟩ := hca (by omega)
        obtain ⟨b2, o2, rfl, h2⟩ := hcb (by omega)
        obtain ⟨pla, plc, hp1, s0, s1, s2, s3, s4, s5⟩ := h1 j hlt
        obtain ⟨rla, rlc, hp2, t0, t1, t2, t3, t4, t5⟩ := h2 j hlt
        have t1a := hta.at j
        have t1b := htb.at j
        have HNj : Hid _ := HN.out j hlt
        have HUj : Hid (eqS (a.getD j scr0) (b.getD j scr0) = true → upTo a b (j + 1)) := fun he i hi => by
          rcases Nat.lt_or_ge i j with h | h
          · exact HU.out i h
          · obtain rfl : i = j := by omega
            exact he
        have hsm := fun W (hW : Below w.heap.size w W) => same_any pla plc (a.getD j scr0) rla rlc (b.getD j scr0) W t1a t1b (hp1.later hW) (hp2.later hW)
        have p0 := cell_later' s0 hb
        have p1 := cell_later' s1 hb
        have p2 := cell_later' s2 hb
        have p3 := cell_later' s3 hb
        have p4 := cell_later' s4 hb
        have p5 := cell_later' s5 hb
        have r0 := cell_later' t0 hb
        have r1 := cell_later' t1 hb
        have r2 := cell_later' t2 hb
        have r3 := cell_later' t3 hb
        have r4 := cell_later' t4 hb
        have r5 := cell_later' t5 hb
        clear h1 h2 hca hcb hp1 hp2 s0 s1 s2 s3 s4 s5 t0 t1 t2 t3 t4 t5 HN HA HU hta htb
        generalize a.getD j scr0 = xp at *
        generalize b.getD j scr0 = xr at *
        cases hv : eqS xp xr with
        | false =>
          have HR : Hid (R = false) := HNj.out hv
          rw [hv] at hsm
          clear hv HNj HUj
          go_wp2_with fail
          have D0 : Below wr.heap.size wr wr.drew := (Below.refl _ _).drew
          refine wp_region_noPanic ?_
          refine wp_region_held_drew (S := fun W => Below wr.heap.size wr W) (by kernel_rfl) ?_ (fun _ => ?_)
          · exact D0
          generalize wr.drew = wd at *
          refine take_at 0 (some 17) (.slice (some ⟨b1, o1, none⟩) n c) rfl rfl (by kernel_rfl) (by kernel_rfl) (by kernel_rfl) (fun _ _ _ h => h) (by rfl) (fun W hSw => by go_simp) D0 ?_
          simp only [Act.put, List.setIfInBounds_toArray, List.set_cons_zero, List.set_cons_succ]
          refine take_at 1 (some 18) (.int .i64 j) rfl rfl (by kernel_rfl) (by kernel_rfl) (by kernel_rfl) (fun _ _ _ h => h) (by rfl) (fun W hSw => by go_simp) D0 ?_
          simp only [Act.put, List.setIfInBounds_toArray, List.set_cons_zero, List.set_cons_succ]
          refine take_at 2 (some 19) (.pointer (some ⟨b1, o1 + j * 6, none⟩)) rfl rfl (by kernel_rfl) (by kernel_rfl) (by kernel_rfl) (fun _ _ _ h => h) (by rfl) (fun W hSw => by go_simp) D0 ?_
          simp only [Act.put, List.setIfInBounds_toArray, List.set_cons_zero, List.set_cons_succ]
          refine take_at 3 (some 20) (.agg #[.slice pla xp.ls.length plc, .bool xp.ov, .int .i64 xp.n, .int .i64 xp.t, .bool xp.has, .int .i64 xp.kind]) rfl rfl (by kernel_rfl) (by kernel_rfl) (by kernel_rfl) (fun _ _ _ h => h) (by rfl) (fun W hSw => by have q0 := cell_later' p0 hSw; have q1 := cell_later' p1 hSw; have q2 := cell_later' p2 hSw; have q3 := cell_later' p3 hSw; have q4 := cell_later' p4 hSw; have q5 := cell_later' p5 hSw; go_simp) D0 ?_
          simp only [Act.put, List.setIfInBounds_toArray, List.set_cons_zero, List.set_cons_succ]
          refine take_at 4 (some 21) (.slice (some ⟨b2, o2, none⟩) n d) rfl rfl (by kernel_rfl) (by kernel_rfl) (by kernel_rfl) (fun _ _ _ h => h) (by rfl) (fun W hSw => by go_simp) D0 ?_
          simp only [Act.put, List.setIfInBounds_toArray, List.set_cons_zero, List.set_cons_succ]
          refine take_at 5 (some 22) (.int .i64 j) rfl rfl (by kernel_rfl) (by kernel_rfl) (by kernel_rfl) (fun _ _ _ h => h) (by rfl) (fun W hSw => by go_simp) D0 ?_
          simp only [Act.put, List.setIfInBounds_toArray, List.set_cons_zero, List.set_cons_succ]
          refine take_at 6 (some 23) (.pointer (some ⟨b2, o2 + j * 6, none⟩)) rfl rfl (by kernel_rfl) (by kernel_rfl) (by kernel_rfl) (fun _ _ _ h => h) (by rfl) (fun W hSw => by go_simp) D0 ?_
          simp only [Act.put, List.setIfInBounds_toArray, List.set_cons_zero, List.set_cons_succ]
          refine take_at 7 (some 24) (.agg #[.slice rla xr.ls.length rlc, .bool xr.ov, .int .i64 xr.n, .int .i64 xr.t, .bool xr.has, .int .i64 xr.kind]) rfl rfl (by kernel_rfl) (by kernel_rfl) (by kernel_rfl) (fun _ _ _ h => h) (by rfl) (fun W hSw => by have q0 := cell_later' r0 hSw; have q1 := cell_later' r1 hSw; have q2 := cell_later' r2 hSw; have q3 := cell_later' r3 hSw; have q4 := cell_later' r4 hSw; have q5 := cell_later' r5 hSw; go_simp) D0 ?_
          simp only [Act.put, List.setIfInBounds_toArray, List.set_cons_zero, List.set_cons_succ]
          refine wpAnyH_ready (rs := [8]) (by kernel_rfl) (by simp) ?_
          refine AllReadyH.cons rfl (fun K hK => ?_) AllReadyH.nil
          go_simp
          refine (hsm _ (Below.chain hb D0)).mono ?_
          rintro e w2 ⟨rfl, hb2⟩
          have D2 := Below.chain D0 hb2
          refine hK.out _ _ ?_ (fun _ => ?_)
          · exact D2
          clear hK K
          refine take_at 9 (some 26) (.bool true) rfl rfl (by kernel_rfl) (by kernel_rfl) (by kernel_rfl) (fun _ _ _ h => h) (by rfl) (fun W hSw => by go_simp) D2 ?_
          simp only [Act.put, List.setIfInBounds_toArray, List.set_cons_zero, List.set_cons_succ]
          refine wpAnyH_done (by kernel_rfl) ?_ _
          refine NoPanic.normal ?_
          go_wp2
          go_ret
          exact ⟨by rw [HR.out]; rfl, Below.chain hb D2⟩
        | true =>
          have HU2 : Hid _ := HUj.out hv
          rw [hv] at hsm
          clear hv HNj HUj
          go_wp2_with fail
          have D0 : Below wr.heap.size wr wr.drew := (Below.refl _ _).drew
          refine wp_region_noPanic ?_
          refine wp_region_held_drew (S := fun W => Below wr.heap.size wr W) (by kernel_rfl) ?_ (fun _ => ?_)
          · exact D0
          generalize wr.drew = wd at *
          refine take_at 0 (some 17) (.slice (some ⟨b1, o1, none⟩) n c) rfl rfl (by kernel_rfl) (by kernel_rfl) (by kernel_rfl) (fun _ _ _ h => h) (by rfl) (fun W hSw => by go_simp) D0 ?_
          simp only [Act.put, List.setIfInBounds_toArray, List.set_cons_zero, List.set_cons_succ]
          refine take_at 1 (some 18) (.int .i64 j) rfl rfl (by kernel_rfl) (by kernel_rfl) (by kernel_rfl) (fun _ _ _ h => h) (by rfl) (fun W hSw => by go_simp) D0 ?_
          simp only [Act.put, List.setIfInBounds_toArray, List.set_cons_zero, List.set_cons_succ]
          refine take_at 2 (some 19) (.pointer (some ⟨b1, o1 + j * 6, none⟩)) rfl rfl (by kernel_rfl) (by kernel_rfl) (by kernel_rfl) (fun _ _ _ h => h) (by rfl) (fun W hSw => by go_simp) D0 ?_
          simp only [Act.put, List.setIfInBounds_toArray, List.set_cons_zero, List.set_cons_succ]
          refine take_at 3 (some 20) (.agg #[.slice pla xp.ls.length plc, .bool xp.ov, .int .i64 xp.n, .int .i64 xp.t, .bool xp.has, .int .i64 xp.kind]) rfl rfl (by kernel_rfl) (by kernel_rfl) (by kernel_rfl) (fun _ _ _ h => h) (by rfl) (fun W hSw => by have q0 := cell_later' p0 hSw; have q1 := cell_later' p1 hSw; have q2 := cell_later' p2 hSw; have q3 := cell_later' p3 hSw; have q4 := cell_later' p4 hSw; have q5 := cell_later' p5 hSw; go_simp) D0 ?_
          simp only [Act.put, List.setIfInBounds_toArray, List.set_cons_zero, List.set_cons_succ]
          refine take_at 4 (some 21) (.slice (some ⟨b2, o2, none⟩) n d) rfl rfl (by kernel_rfl) (by kernel_rfl) (by kernel_rfl) (fun _ _ _ h => h) (by rfl) (fun W hSw => by go_simp) D0 ?_
          simp only [Act.put, List.setIfInBounds_toArray, List.set_cons_zero, List.set_cons_succ]
          refine take_at 5 (some 22) (.int .i64 j) rfl rfl (by kernel_rfl) (by kernel_rfl) (by kernel_rfl) (fun _ _ _ h => h) (by rfl) (fun W hSw => by go_simp) D0 ?_
          simp only [Act.put, List.setIfInBounds_toArray, List.set_cons_zero, List.set_cons_succ]
          refine take_at 6 (some 23) (.pointer (some ⟨b2, o2 + j * 6, none⟩)) rfl rfl (by kernel_rfl) (by kernel_rfl) (by kernel_rfl) (fun _ _ _ h => h) (by rfl) (fun W hSw => by go_simp) D0 ?_
          simp only [Act.put, List.setIfInBounds_toArray, List.set_cons_zero, List.set_cons_succ]
          refine take_at 7 (some 24) (.agg #[.slice rla xr.ls.length rlc, .bool xr.ov, .int .i64 xr.n, .int .i64 xr.t, .bool xr.has, .int .i64 xr.kind]) rfl rfl (by kernel_rfl) (by kernel_rfl) (by kernel_rfl) (fun _ _ _ h => h) (by rfl) (fun W hSw => by have q0 := cell_later' r0 hSw; have q1 := cell_later' r1 hSw; have q2 := cell_later' r2 hSw; have q3 := cell_later' r3 hSw; have q4 := cell_later' r4 hSw; have q5 := cell_later' r5 hSw; go_simp) D0 ?_
          simp only [Act.put, List.setIfInBounds_toArray, List.set_cons_zero, List.set_cons_succ]
          refine wpAnyH_ready (rs := [8]) (by kernel_rfl) (by simp) ?_
          refine AllReadyH.cons rfl (fun K hK => ?_) AllReadyH.nil
          go_simp
          refine (hsm _ (Below.chain hb D0)).mono ?_
          rintro e w2 ⟨rfl, hb2⟩
          have D2 := Below.chain D0 hb2
          refine hK.out _ _ ?_ (fun _ => ?_)
          · exact D2
          clear hK K
          refine take_at 9 (some 26) (.bool false) rfl rfl (by kernel_rfl) (by kernel_rfl) (by kernel_rfl) (fun _ _ _ h => h) (by rfl) (fun W hSw => by go_simp) D2 ?_
          simp only [Act.put, List.setIfInBounds_toArray, List.set_cons_zero, List.set_cons_succ]
          refine wpAnyH_done (by kernel_rfl) ?_ _
          refine NoPanic.normal ?_
          go_wp2
          go_roundw
          case rel => exact ⟨j + 1, by omega, by go_num, HU2, Below.chain hb D2⟩
          case measure => simp [intOf]; omega
      · have e1 : j = n := by omega
        subst e1
        have HR : Hid (R = true) := HA.out HU.out
        clear HA HN HU
        go_wp2
        go_ret
        exact ⟨by rw [HR.out]; rfl, hb⟩
  · have HR : Hid (eqL a b = false) := eqL_len (by rw [hla, hlb]; exact hnm)
    have hnm' : ((n : Int) != m) = true := by rw [bne_iff_ne]; omega
    clear hla hlb hnm
    generalize eqL a b = R at *
    go_enter Tryz.func14, Tryz.ntmps14
    go_wp2
    go_ret
    exact ⟨by rw [HR.out]; rfl, Below.refl _ _⟩
end Go.Proofs.YtcbjhfnlhpallaaGreatDoor
