/- Is, the program's and the reference's: for every sample. -/
import Derived.Test.YtcbjhfnlhpallaaGreatDoorESmall
import Derived.Test.YtcbjhfnlhpallaaGreatDoorELineW
import Derived.Test.YtcbjhfnlhpallaaGreatDoorBaseG
import Derived.Test.YtcbjhfnlhpallaaGreatDoorBaseR
namespace Go.Proofs.YtcbjhfnlhpallaaGreatDoor
open Go.RowKit

theorem kwd_ne (k : Int) : (!List.isEmpty (kwd k)) = decide (0 ≤ k ∧ k ≤ 2) := by
  by_cases h0 : k = 0
  · subst h0; rfl
  · by_cases h1 : k = 1
    · subst h1; rfl
    · by_cases h2 : k = 2
      · subst h2; rfl
      · have : kwd k = [] := by unfold kwd; rw [if_neg h0, if_neg h1, if_neg h2]
        rw [this, decide_eq_false (by omega)]
        rfl
theorem hasB (b : Bool) : b = true ∨ b = false := by cases b <;> simp
theorem zero_eq (t : Int) : (t == 0) = decide (t = 0) := by rw [Bool.eq_iff_iff]; simp
set_option maxRecDepth 20000 in
set_option maxHeartbeats 8000000 in
theorem isS_any (la : Option Addr) (lc : Nat) (x : Scr) (w : World) (hn : x.ls.length ≤ 1000000) (hf : Fit x.ls) (hp : Ps w la x.ls.length x.ls) : Calls Tryz.prog 16 #[.agg #[.slice la x.ls.length lc, .bool x.ov, .int .i64 x.n, .int .i64 x.t, .bool x.has, .int .i64 x.kind]] w fun e w' => e = .returned (.bool (fIsS x)) ∧ Below w.heap.size w w' := by
  have hx := BoxX.new w (.slice la x.ls.length lc) x
  have hb0 := bal (Below.refl _ w) (.cells #[.slice la x.ls.length lc, .bool x.ov, .int .i64 x.n, .int .i64 x.t, .bool x.has, .int .i64 x.kind] 34)
  have hp0 := hp.later hb0
  have hI := fun W (h : Ps W la x.ls.length x.ls) => is_any la x.ls.length lc x.ls W (by omega) hf h
  have hM := fun W (h : Ps W la x.ls.length x.ls) => hasMetric_any la x.ls.length lc x.ls W hn hf h
  have hF := fun W => Fx.is_any x.ov x.n W
  have hT := fun W => isTime_any x.t W
  have hK := fun W => kindWord_any x.kind W
  have HR : Hid (fIsS x = (fIs x.ls && (fName (fGet x.ls nm) && (Fx.fIs x.ov x.n && (decide (0 ≤ x.t ∧ x.t ≤ 1000000) && ((x.has || decide (x.t = 0)) && decide (0 ≤ x.kind ∧ x.kind ≤ 2))))))) := rfl
  have HZ := zero_eq x.t
  have HKI : Hid _ := kwd_ne x.kind
  clear hf hn hp
  generalize fIs x.ls = b1 at *
  generalize fName (fGet x.ls nm) = b2 at *
  generalize Fx.fIs x.ov x.n = b3 at *
  generalize decide (0 ≤ x.t ∧ x.t ≤ 1000000) = T at *
  generalize decide (x.t = 0) = Z at *
  generalize decide (0 ≤ x.kind ∧ x.kind ≤ 2) = KD at *
  generalize kwd x.kind = kw at *
  cases b1 with
  | false =>
    go_enter Tryz.func16, Tryz.ntmps16
    go_wp2_with fail
    generalize w.alloc (.cells #[.slice la x.ls.length lc, .bool x.ov, .int .i64 x.n, .int .i64 x.t, .bool x.has, .int .i64 x.kind] 34) = w0 at *
    have B0 := hb0
    refine (hI _ hp0).mono ?_
    rintro e w1 ⟨rfl, hb1⟩
    have B1 := Below.chain B0 hb1
    have hx1 := hx.later hb1
    have hp1 := hp0.later hb1
    obtain ⟨c0, c1, c2, c3, c4, c5, f0, f1, f2, f3, f4, f5⟩ := hx1
    go_wp2
    go_ret
    exact ⟨by rw [HR.out]; rfl, B1⟩
  | true =>
    cases b2 with
    | false =>
      go_enter Tryz.func16, Tryz.ntmps16
      go_wp2_with fail
      generalize w.alloc (.cells #[.slice la x.ls.length lc, .bool x.ov, .int .i64 x.n, .int .i64 x.t, .bool x.has, .int .i64 x.kind] 34) = w0 at *
      have B0 := hb0
      refine (hI _ hp0).mono ?_
      rintro e w1 ⟨rfl, hb1⟩
      have B1 := Below.chain B0 hb1
      have hx1 := hx.later hb1
      have hp1 := hp0.later hb1
      obtain ⟨c0, c1, c2, c3, c4, c5, f0, f1, f2, f3, f4, f5⟩ := hx1
      go_wp2_with fail
      have hx1 : BoxX w1 w.heap.size (.slice la x.ls.length lc) x := ⟨c0, c1, c2, c3, c4, c5, f0, f1, f2, f3, f4, f5⟩
      clear c0 c1 c2 c3 c4 c5 f0 f1 f2 f3 f4 f5
      refine (hM _ hp1).mono ?_
      rintro e w2 ⟨rfl, hb2⟩
      have B2 := Below.chain B1 hb2
      have hx2 := hx1.later hb2
      have hp2 := hp1.later hb2
      obtain ⟨c0, c1, c2, c3, c4, c5, f0, f1, f2, f3, f4, f5⟩ := hx2
      go_wp2
      go_ret
      exact ⟨by rw [HR.out]; rfl, B2⟩
    | true =>
      cases b3 with
      | false =>
        go_enter Tryz.func16, Tryz.ntmps16
        go_wp2_with fail
        generalize w.alloc (.cells #[.slice la x.ls.length lc, .bool x.ov, .int .i64 x.n, .int .i64 x.t, .bool x.has, .int .i64 x.kind] 34) = w0 at *
        have B0 := hb0
        refine (hI _ hp0).mono ?_
        rintro e w1 ⟨rfl, hb1⟩
        have B1 := Below.chain B0 hb1
        have hx1 := hx.later hb1
        have hp1 := hp0.later hb1
        obtain ⟨c0, c1, c2, c3, c4, c5, f0, f1, f2, f3, f4, f5⟩ := hx1
        go_wp2_with fail
        have hx1 : BoxX w1 w.heap.size (.slice la x.ls.length lc) x := ⟨c0, c1, c2, c3, c4, c5, f0, f1, f2, f3, f4, f5⟩
        clear c0 c1 c2 c3 c4 c5 f0 f1 f2 f3 f4 f5
        refine (hM _ hp1).mono ?_
        rintro e w2 ⟨rfl, hb2⟩
        have B2 := Below.chain B1 hb2
        have hx2 := hx1.later hb2
        have hp2 := hp1.later hb2
        obtain ⟨c0, c1, c2, c3, c4, c5, f0, f1, f2, f3, f4, f5⟩ := hx2
        go_wp2_with fail
        have hx2 : BoxX w2 w.heap.size (.slice la x.ls.length lc) x := ⟨c0, c1, c2, c3, c4, c5, f0, f1, f2, f3, f4, f5⟩
        clear c0 c1 c2 c3 c4 c5 f0 f1 f2 f3 f4 f5
        refine (hF _).mono ?_
        rintro e w3 ⟨rfl, hb3⟩
        have B3 := Below.chain B2 hb3
        have hx3 := hx2.later hb3
        have hp3 := hp2.later hb3
        obtain ⟨c0, c1, c2, c3, c4, c5, f0, f1, f2, f3, f4, f5⟩ := hx3
        go_wp2
        go_ret
        exact ⟨by rw [HR.out]; rfl, B3⟩
      | true =>
        cases T with
        | false =>
          go_enter Tryz.func16, Tryz.ntmps16
          go_wp2_with fail
          generalize w.alloc (.cells #[.slice la x.ls.length lc, .bool x.ov, .int .i64 x.n, .int .i64 x.t, .bool x.has, .int .i64 x.kind] 34) = w0 at *
          have B0 := hb0
          refine (hI _ hp0).mono ?_
          rintro e w1 ⟨rfl, hb1⟩
          have B1 := Below.chain B0 hb1
          have hx1 := hx.later hb1
          have hp1 := hp0.later hb1
          obtain ⟨c0, c1, c2, c3, c4, c5, f0, f1, f2, f3, f4, f5⟩ := hx1
          go_wp2_with fail
          have hx1 : BoxX w1 w.heap.size (.slice la x.ls.length lc) x := ⟨c0, c1, c2, c3, c4, c5, f0, f1, f2, f3, f4, f5⟩
          clear c0 c1 c2 c3 c4 c5 f0 f1 f2 f3 f4 f5
          refine (hM _ hp1).mono ?_
          rintro e w2 ⟨rfl, hb2⟩
          have B2 := Below.chain B1 hb2
          have hx2 := hx1.later hb2
          have hp2 := hp1.later hb2
          obtain ⟨c0, c1, c2, c3, c4, c5, f0, f1, f2, f3, f4, f5⟩ := hx2
          go_wp2_with fail
          have hx2 : BoxX w2 w.heap.size (.slice la x.ls.length lc) x := ⟨c0, c1, c2, c3, c4, c5, f0, f1, f2, f3, f4, f5⟩
          clear c0 c1 c2 c3 c4 c5 f0 f1 f2 f3 f4 f5
          refine (hF _).mono ?_
          rintro e w3 ⟨rfl, hb3⟩
          have B3 := Below.chain B2 hb3
          have hx3 := hx2.later hb3
          have hp3 := hp2.later hb3
          obtain ⟨c0, c1, c2, c3, c4, c5, f0, f1, f2, f3, f4, f5⟩ := hx3
          go_wp2_with fail
          have hx3 : BoxX w3 w.heap.size (.slice la x.ls.length lc) x := ⟨c0, c1, c2, c3, c4, c5, f0, f1, f2, f3, f4, f5⟩
          clear c0 c1 c2 c3 c4 c5 f0 f1 f2 f3 f4 f5
          refine (hT _).mono ?_
          rintro e wz ⟨rfl, rfl⟩
          obtain ⟨c0, c1, c2, c3, c4, c5, f0, f1, f2, f3, f4, f5⟩ := hx3
          go_wp2
          go_ret
          exact ⟨by rw [HR.out]; rfl, B3⟩
        | true =>
          rcases hasB x.has with hh | hh
          · rw [hh] at HR
            have HH : Hid _ := hh
            clear hh
            go_enter Tryz.func16, Tryz.ntmps16
            go_wp2_with fail
            generalize w.alloc (.cells #[.slice la x.ls.length lc, .bool x.ov, .int .i64 x.n, .int .i64 x.t, .bool x.has, .int .i64 x.kind] 34) = w0 at *
            have B0 := hb0
            refine (hI _ hp0).mono ?_
            rintro e w1 ⟨rfl, hb1⟩
            have B1 := Below.chain B0 hb1
            have hx1 := hx.later hb1
            have hp1 := hp0.later hb1
            obtain ⟨c0, c1, c2, c3, c4, c5, f0, f1, f2, f3, f4, f5⟩ := hx1
            have hx4 : Hid _ := c4
            rw [HH.out] at c4
            go_wp2_with fail
            have hx1 : BoxX w1 w.heap.size (.slice la x.ls.length lc) x := ⟨c0, c1, c2, c3, hx4.out, c5, f0, f1, f2, f3, f4, f5⟩
            clear c0 c1 c2 c3 c4 c5 f0 f1 f2 f3 f4 f5
            refine (hM _ hp1).mono ?_
            rintro e w2 ⟨rfl, hb2⟩
            have B2 := Below.chain B1 hb2
            have hx2 := hx1.later hb2
            have hp2 := hp1.later hb2
            obtain ⟨c0, c1, c2, c3, c4, c5, f0, f1, f2, f3, f4, f5⟩ := hx2
            have hx4 : Hid _ := c4
            rw [HH.out] at c4
            go_wp2_with fail
            have hx2 : BoxX w2 w.heap.size (.slice la x.ls.length lc) x := ⟨c0, c1, c2, c3, hx4.out, c5, f0, f1, f2, f3, f4, f5⟩
            clear c0 c1 c2 c3 c4 c5 f0 f1 f2 f3 f4 f5
            refine (hF _).mono ?_
            rintro e w3 ⟨rfl, hb3⟩
            have B3 := Below.chain B2 hb3
            have hx3 := hx2.later hb3
            have hp3 := hp2.later hb3
            obtain ⟨c0, c1, c2, c3, c4, c5, f0, f1, f2, f3, f4, f5⟩ := hx3
            have hx4 : Hid _ := c4
            rw [HH.out] at c4
            go_wp2_with fail
            have hx3 : BoxX w3 w.heap.size (.slice la x.ls.length lc) x := ⟨c0, c1, c2, c3, hx4.out, c5, f0, f1, f2, f3, f4, f5⟩
            clear c0 c1 c2 c3 c4 c5 f0 f1 f2 f3 f4 f5
            refine (hT _).mono ?_
            rintro e wz ⟨rfl, rfl⟩
            obtain ⟨c0, c1, c2, c3, c4, c5, f0, f1, f2, f3, f4, f5⟩ := hx3
            have hx4 : Hid _ := c4
            rw [HH.out] at c4
            go_wp2_with fail
            have hx3 : BoxX w3 w.heap.size (.slice la x.ls.length lc) x := ⟨c0, c1, c2, c3, hx4.out, c5, f0, f1, f2, f3, f4, f5⟩
            clear c0 c1 c2 c3 c4 c5 f0 f1 f2 f3 f4 f5
            refine (hK _).mono ?_
            rintro e wz ⟨rfl, rfl⟩
            obtain ⟨c0, c1, c2, c3, c4, c5, f0, f1, f2, f3, f4, f5⟩ := hx3
            rw [HH.out] at c4
            go_wp2
            go_ret
            exact ⟨by rw [HR.out]; exact congrArg (fun b => Ending.returned (Value.bool b)) HKI.out, B3⟩
          · rw [hh] at HR
            have HH : Hid _ := hh
            clear hh
            cases Z with
            | false =>
              go_enter Tryz.func16, Tryz.ntmps16
              go_wp2_with fail
              generalize w.alloc (.cells #[.slice la x.ls.length lc, .bool x.ov, .int .i64 x.n, .int .i64 x.t, .bool x.has, .int .i64 x.kind] 34) = w0 at *
              have B0 := hb0
              refine (hI _ hp0).mono ?_
              rintro e w1 ⟨rfl, hb1⟩
              have B1 := Below.chain B0 hb1
              have hx1 := hx.later hb1
              have hp1 := hp0.later hb1
              obtain ⟨c0, c1, c2, c3, c4, c5, f0, f1, f2, f3, f4, f5⟩ := hx1
              have hx4 : Hid _ := c4
              rw [HH.out] at c4
              go_wp2_with fail
              have hx1 : BoxX w1 w.heap.size (.slice la x.ls.length lc) x := ⟨c0, c1, c2, c3, hx4.out, c5, f0, f1, f2, f3, f4, f5⟩
              clear c0 c1 c2 c3 c4 c5 f0 f1 f2 f3 f4 f5
              refine (hM _ hp1).mono ?_
              rintro e w2 ⟨rfl, hb2⟩
              have B2 := Below.chain B1 hb2
              have hx2 := hx1.later hb2
              have hp2 := hp1.later hb2
              obtain ⟨c0, c1, c2, c3, c4, c5, f0, f1, f2, f3, f4, f5⟩ := hx2
              have hx4 : Hid _ := c4
              rw [HH.out] at c4
              go_wp2_with fail
              have hx2 : BoxX w2 w.heap.size (.slice la x.ls.length lc) x := ⟨c0, c1, c2, c3, hx4.out, c5, f0, f1, f2, f3, f4, f5⟩
              clear c0 c1 c2 c3 c4 c5 f0 f1 f2 f3 f4 f5
              refine (hF _).mono ?_
              rintro e w3 ⟨rfl, hb3⟩
              have B3 := Below.chain B2 hb3
              have hx3 := hx2.later hb3
              have hp3 := hp2.later hb3
              obtain ⟨c0, c1, c2, c3, c4, c5, f0, f1, f2, f3, f4, f5⟩ := hx3
              have hx4 : Hid _ := c4
              rw [HH.out] at c4
              go_wp2_with fail
              have hx3 : BoxX w3 w.heap.size (.slice la x.ls.length lc) x := ⟨c0, c1, c2, c3, hx4.out, c5, f0, f1, f2, f3, f4, f5⟩
              clear c0 c1 c2 c3 c4 c5 f0 f1 f2 f3 f4 f5
              refine (hT _).mono ?_
              rintro e wz ⟨rfl, rfl⟩
              obtain ⟨c0, c1, c2, c3, c4, c5, f0, f1, f2, f3, f4, f5⟩ := hx3
              rw [HH.out] at c4
              go_wp2
              go_ret
              exact ⟨by rw [HR.out]; rfl, B3⟩
            | true =>
              go_enter Tryz.func16, Tryz.ntmps16
              go_wp2_with fail
              generalize w.alloc (.cells #[.slice la x.ls.length lc, .bool x.ov, .int .i64 x.n, .int .i64 x.t, .bool x.has, .int .i64 x.kind] 34) = w0 at *
              have B0 := hb0
              refine (hI _ hp0).mono ?_
              rintro e w1 ⟨rfl, hb1⟩
              have B1 := Below.chain B0 hb1
              have hx1 := hx.later hb1
              have hp1 := hp0.later hb1
              obtain ⟨c0, c1, c2, c3, c4, c5, f0, f1, f2, f3, f4, f5⟩ := hx1
              have hx4 : Hid _ := c4
              rw [HH.out] at c4
              go_wp2_with fail
              have hx1 : BoxX w1 w.heap.size (.slice la x.ls.length lc) x := ⟨c0, c1, c2, c3, hx4.out, c5, f0, f1, f2, f3, f4, f5⟩
              clear c0 c1 c2 c3 c4 c5 f0 f1 f2 f3 f4 f5
              refine (hM _ hp1).mono ?_
              rintro e w2 ⟨rfl, hb2⟩
              have B2 := Below.chain B1 hb2
              have hx2 := hx1.later hb2
              have hp2 := hp1.later hb2
              obtain ⟨c0, c1, c2, c3, c4, c5, f0, f1, f2, f3, f4, f5⟩ := hx2
              have hx4 : Hid _ := c4
              rw [HH.out] at c4
              go_wp2_with fail
              have hx2 : BoxX w2 w.heap.size (.slice la x.ls.length lc) x := ⟨c0, c1, c2, c3, hx4.out, c5, f0, f1, f2, f3, f4, f5⟩
              clear c0 c1 c2 c3 c4 c5 f0 f1 f2 f3 f4 f5
              refine (hF _).mono ?_
              rintro e w3 ⟨rfl, hb3⟩
              have B3 := Below.chain B2 hb3
              have hx3 := hx2.later hb3
              have hp3 := hp2.later hb3
              obtain ⟨c0, c1, c2, c3, c4, c5, f0, f1, f2, f3, f4, f5⟩ := hx3
              have hx4 : Hid _ := c4
              rw [HH.out] at c4
              go_wp2_with fail
              have hx3 : BoxX w3 w.heap.size (.slice la x.ls.length lc) x := ⟨c0, c1, c2, c3, hx4.out, c5, f0, f1, f2, f3, f4, f5⟩
              clear c0 c1 c2 c3 c4 c5 f0 f1 f2 f3 f4 f5
              refine (hT _).mono ?_
              rintro e wz ⟨rfl, rfl⟩
              obtain ⟨c0, c1, c2, c3, c4, c5, f0, f1, f2, f3, f4, f5⟩ := hx3
              have hx4 : Hid _ := c4
              rw [HH.out] at c4
              go_wp2_with fail
              have hx3 : BoxX w3 w.heap.size (.slice la x.ls.length lc) x := ⟨c0, c1, c2, c3, hx4.out, c5, f0, f1, f2, f3, f4, f5⟩
              clear c0 c1 c2 c3 c4 c5 f0 f1 f2 f3 f4 f5
              refine (hK _).mono ?_
              rintro e wz ⟨rfl, rfl⟩
              obtain ⟨c0, c1, c2, c3, c4, c5, f0, f1, f2, f3, f4, f5⟩ := hx3
              rw [HH.out] at c4
              go_wp2
              go_ret
              exact ⟨by rw [HR.out]; exact congrArg (fun b => Ending.returned (Value.bool b)) HKI.out, B3⟩
set_option maxRecDepth 20000 in
set_option maxHeartbeats 8000000 in
theorem refIsS_any (la : Option Addr) (lc : Nat) (x : Scr) (w : World) (hn : x.ls.length ≤ 1000000) (hx64 : -9223372036854775808 ≤ x.n) (hf : Fit x.ls) (hp : Ps w la x.ls.length x.ls) : Calls Tryz.prog 17 #[.agg #[.slice la x.ls.length lc, .bool x.ov, .int .i64 x.n, .int .i64 x.t, .bool x.has, .int .i64 x.kind]] w fun e w' => e = .returned (.bool (fIsS x)) ∧ Below w.heap.size w w' := by
  have hx := BoxX.new w (.slice la x.ls.length lc) x
  have hb0 := bal (Below.refl _ w) (.cells #[.slice la x.ls.length lc, .bool x.ov, .int .i64 x.n, .int .i64 x.t, .bool x.has, .int .i64 x.kind] 34)
  have hp0 := hp.later hb0
  have hI := fun W (h : Ps W la x.ls.length x.ls) => refIs_any la x.ls.length lc x.ls W (by omega) hf h
  have hG := fun W (h : Ps W la x.ls.length x.ls) => refGet_any la x.ls.length lc x.ls nm W (by omega) h
  have hlm : (fGet x.ls nm).length ≤ 9223372036854775807 := by
    by_cases h : fGet x.ls nm = []
    · rw [h]; simp
    · exact (hf _ (get_mem h)).2
  have hN := fun W => refName_any (fGet x.ls nm) W hlm
  have hF := fun W => Fx.ris_all x.ov x.n W hx64
  have HR : Hid (fIsS x = (fIs x.ls && (fName (fGet x.ls nm) && (Fx.fIs x.ov x.n && (decide (0 ≤ x.t ∧ x.t ≤ 1000000) && ((x.has || decide (x.t = 0)) && decide (0 ≤ x.kind ∧ x.kind ≤ 2))))))) := rfl
  have HZ := zero_eq x.t
  have HT : decide (0 ≤ x.t ∧ x.t ≤ 1000000) = (decide (0 ≤ x.t) && decide (x.t ≤ 1000000)) := by rw [Bool.eq_iff_iff]; simp
  have HK : decide (0 ≤ x.kind ∧ x.kind ≤ 2) = (decide (0 ≤ x.kind) && decide (x.kind ≤ 2)) := by rw [Bool.eq_iff_iff]; simp
  have HR : Hid (fIsS x = (fIs x.ls && (fName (fGet x.ls nm) && (Fx.fIs x.ov x.n && ((decide (0 ≤ x.t) && decide (x.t ≤ 1000000)) && ((x.has || decide (x.t = 0)) && (decide (0 ≤ x.kind) && decide (x.kind ≤ 2)))))))) := by show _ = _; rw [← HT, ← HK]; exact HR.out
  clear hf hn hp HT HK hlm
  generalize fIs x.ls = b1 at *
  generalize fName (fGet x.ls nm) = b2 at *
  generalize fGet x.ls nm = mn at *
  generalize Fx.fIs x.ov x.n = b3 at *
  generalize decide (x.t = 0) = Z at *
  cases b1 with
  | false =>
    go_enter Tryz.func17, Tryz.ntmps17
    go_wp2_with fail
    generalize w.alloc (.cells #[.slice la x.ls.length lc, .bool x.ov, .int .i64 x.n, .int .i64 x.t, .bool x.has, .int .i64 x.kind] 34) = w0 at *
    have B0 := hb0
    refine (hI _ hp0).mono ?_
    rintro e w1 ⟨rfl, hb1⟩
    have B1 := Below.chain B0 hb1
    have hx1 := hx.later hb1
    have hp1 := hp0.later hb1
    obtain ⟨c0, c1, c2, c3, c4, c5, f0, f1, f2, f3, f4, f5⟩ := hx1
    go_wp2
    go_ret
    exact ⟨by rw [HR.out]; rfl, B1⟩
  | true =>
    cases b2 with
    | false =>
      go_enter Tryz.func17, Tryz.ntmps17
      go_wp2_with fail
      generalize w.alloc (.cells #[.slice la x.ls.length lc, .bool x.ov, .int .i64 x.n, .int .i64 x.t, .bool x.has, .int .i64 x.kind] 34) = w0 at *
      have B0 := hb0
      refine (hI _ hp0).mono ?_
      rintro e w1 ⟨rfl, hb1⟩
      have B1 := Below.chain B0 hb1
      have hx1 := hx.later hb1
      have hp1 := hp0.later hb1
      obtain ⟨c0, c1, c2, c3, c4, c5, f0, f1, f2, f3, f4, f5⟩ := hx1
      go_wp2_with fail
      have hx1 : BoxX w1 w.heap.size (.slice la x.ls.length lc) x := ⟨c0, c1, c2, c3, c4, c5, f0, f1, f2, f3, f4, f5⟩
      clear c0 c1 c2 c3 c4 c5 f0 f1 f2 f3 f4 f5
      refine (hG _ hp1).mono ?_
      rintro e wz ⟨rfl, rfl⟩
      obtain ⟨c0, c1, c2, c3, c4, c5, f0, f1, f2, f3, f4, f5⟩ := hx1
      go_wp2_with fail
      have hx1 : BoxX w1 w.heap.size (.slice la x.ls.length lc) x := ⟨c0, c1, c2, c3, c4, c5, f0, f1, f2, f3, f4, f5⟩
      clear c0 c1 c2 c3 c4 c5 f0 f1 f2 f3 f4 f5
      refine (hN _).mono ?_
      rintro e wz ⟨rfl, rfl⟩
      obtain ⟨c0, c1, c2, c3, c4, c5, f0, f1, f2, f3, f4, f5⟩ := hx1
      go_wp2
      go_ret
      exact ⟨by rw [HR.out]; rfl, B1⟩
    | true =>
      cases b3 with
      | false =>
        go_enter Tryz.func17, Tryz.ntmps17
        go_wp2_with fail
        generalize w.alloc (.cells #[.slice la x.ls.length lc, .bool x.ov, .int .i64 x.n, .int .i64 x.t, .bool x.has, .int .i64 x.kind] 34) = w0 at *
        have B0 := hb0
        refine (hI _ hp0).mono ?_
        rintro e w1 ⟨rfl, hb1⟩
        have B1 := Below.chain B0 hb1
        have hx1 := hx.later hb1
        have hp1 := hp0.later hb1
        obtain ⟨c0, c1, c2, c3, c4, c5, f0, f1, f2, f3, f4, f5⟩ := hx1
        go_wp2_with fail
        have hx1 : BoxX w1 w.heap.size (.slice la x.ls.length lc) x := ⟨c0, c1, c2, c3, c4, c5, f0, f1, f2, f3, f4, f5⟩
        clear c0 c1 c2 c3 c4 c5 f0 f1 f2 f3 f4 f5
        refine (hG _ hp1).mono ?_
        rintro e wz ⟨rfl, rfl⟩
        obtain ⟨c0, c1, c2, c3, c4, c5, f0, f1, f2, f3, f4, f5⟩ := hx1
        go_wp2_with fail
        have hx1 : BoxX w1 w.heap.size (.slice la x.ls.length lc) x := ⟨c0, c1, c2, c3, c4, c5, f0, f1, f2, f3, f4, f5⟩
        clear c0 c1 c2 c3 c4 c5 f0 f1 f2 f3 f4 f5
        refine (hN _).mono ?_
        rintro e wz ⟨rfl, rfl⟩
        obtain ⟨c0, c1, c2, c3, c4, c5, f0, f1, f2, f3, f4, f5⟩ := hx1
        go_wp2_with fail
        have hx1 : BoxX w1 w.heap.size (.slice la x.ls.length lc) x := ⟨c0, c1, c2, c3, c4, c5, f0, f1, f2, f3, f4, f5⟩
        clear c0 c1 c2 c3 c4 c5 f0 f1 f2 f3 f4 f5
        refine (hF _).mono ?_
        rintro e w2 ⟨rfl, hb2⟩
        have B2 := Below.chain B1 hb2
        have hx2 := hx1.later hb2
        have hp2 := hp1.later hb2
        obtain ⟨c0, c1, c2, c3, c4, c5, f0, f1, f2, f3, f4, f5⟩ := hx2
        go_wp2
        go_ret
        exact ⟨by rw [HR.out]; rfl, B2⟩
      | true =>
        by_cases t0 : 0 ≤ x.t
        · have t0' := decide_eq_true t0
          rw [t0'] at HR
          by_cases t1 : x.t ≤ 1000000
          · have t1' := decide_eq_true t1
            rw [t1'] at HR
            rcases hasB x.has with hh | hh
            · rw [hh] at HR
              have HH : Hid _ := hh
              clear hh
              by_cases k0 : 0 ≤ x.kind
              · have k0' := decide_eq_true k0
                rw [k0'] at HR
                by_cases k1 : x.kind ≤ 2
                · have k1' := decide_eq_true k1
                  rw [k1'] at HR
                  go_enter Tryz.func17, Tryz.ntmps17
                  go_wp2_with fail
                  generalize w.alloc (.cells #[.slice la x.ls.length lc, .bool x.ov, .int .i64 x.n, .int .i64 x.t, .bool x.has, .int .i64 x.kind] 34) = w0 at *
                  have B0 := hb0
                  refine (hI _ hp0).mono ?_
                  rintro e w1 ⟨rfl, hb1⟩
                  have B1 := Below.chain B0 hb1
                  have hx1 := hx.later hb1
                  have hp1 := hp0.later hb1
                  obtain ⟨c0, c1, c2, c3, c4, c5, f0, f1, f2, f3, f4, f5⟩ := hx1
                  have hx4 : Hid _ := c4
                  rw [HH.out] at c4
                  go_wp2_with fail
                  have hx1 : BoxX w1 w.heap.size (.slice la x.ls.length lc) x := ⟨c0, c1, c2, c3, hx4.out, c5, f0, f1, f2, f3, f4, f5⟩
                  clear c0 c1 c2 c3 c4 c5 f0 f1 f2 f3 f4 f5
                  refine (hG _ hp1).mono ?_
                  rintro e wz ⟨rfl, rfl⟩
                  obtain ⟨c0, c1, c2, c3, c4, c5, f0, f1, f2, f3, f4, f5⟩ := hx1
                  have hx4 : Hid _ := c4
                  rw [HH.out] at c4
                  go_wp2_with fail
                  have hx1 : BoxX w1 w.heap.size (.slice la x.ls.length lc) x := ⟨c0, c1, c2, c3, hx4.out, c5, f0, f1, f2, f3, f4, f5⟩
                  clear c0 c1 c2 c3 c4 c5 f0 f1 f2 f3 f4 f5
                  refine (hN _).mono ?_
                  rintro e wz ⟨rfl, rfl⟩
                  obtain ⟨c0, c1, c2, c3, c4, c5, f0, f1, f2, f3, f4, f5⟩ := hx1
                  have hx4 : Hid _ := c4
                  rw [HH.out] at c4
                  go_wp2_with fail
                  have hx1 : BoxX w1 w.heap.size (.slice la x.ls.length lc) x := ⟨c0, c1, c2, c3, hx4.out, c5, f0, f1, f2, f3, f4, f5⟩
                  clear c0 c1 c2 c3 c4 c5 f0 f1 f2 f3 f4 f5
                  refine (hF _).mono ?_
                  rintro e w2 ⟨rfl, hb2⟩
                  have B2 := Below.chain B1 hb2
                  have hx2 := hx1.later hb2
                  have hp2 := hp1.later hb2
                  obtain ⟨c0, c1, c2, c3, c4, c5, f0, f1, f2, f3, f4, f5⟩ := hx2
                  rw [HH.out] at c4
                  go_wp2
                  go_ret
                  exact ⟨by rw [HR.out]; rfl, B2⟩
                · have k1' := decide_eq_false k1
                  rw [k1'] at HR
                  go_enter Tryz.func17, Tryz.ntmps17
                  go_wp2_with fail
                  generalize w.alloc (.cells #[.slice la x.ls.length lc, .bool x.ov, .int .i64 x.n, .int .i64 x.t, .bool x.has, .int .i64 x.kind] 34) = w0 at *
                  have B0 := hb0
                  refine (hI _ hp0).mono ?_
                  rintro e w1 ⟨rfl, hb1⟩
                  have B1 := Below.chain B0 hb1
                  have hx1 := hx.later hb1
                  have hp1 := hp0.later hb1
                  obtain ⟨c0, c1, c2, c3, c4, c5, f0, f1, f2, f3, f4, f5⟩ := hx1
                  have hx4 : Hid _ := c4
                  rw [HH.out] at c4
                  go_wp2_with fail
                  have hx1 : BoxX w1 w.heap.size (.slice la x.ls.length lc) x := ⟨c0, c1, c2, c3, hx4.out, c5, f0, f1, f2, f3, f4, f5⟩
                  clear c0 c1 c2 c3 c4 c5 f0 f1 f2 f3 f4 f5
                  refine (hG _ hp1).mono ?_
                  rintro e wz ⟨rfl, rfl⟩
                  obtain ⟨c0, c1, c2, c3, c4, c5, f0, f1, f2, f3, f4, f5⟩ := hx1
                  have hx4 : Hid _ := c4
                  rw [HH.out] at c4
                  go_wp2_with fail
                  have hx1 : BoxX w1 w.heap.size (.slice la x.ls.length lc) x := ⟨c0, c1, c2, c3, hx4.out, c5, f0, f1, f2, f3, f4, f5⟩
                  clear c0 c1 c2 c3 c4 c5 f0 f1 f2 f3 f4 f5
                  refine (hN _).mono ?_
                  rintro e wz ⟨rfl, rfl⟩
                  obtain ⟨c0, c1, c2, c3, c4, c5, f0, f1, f2, f3, f4, f5⟩ := hx1
                  have hx4 : Hid _ := c4
                  rw [HH.out] at c4
                  go_wp2_with fail
                  have hx1 : BoxX w1 w.heap.size (.slice la x.ls.length lc) x := ⟨c0, c1, c2, c3, hx4.out, c5, f0, f1, f2, f3, f4, f5⟩
                  clear c0 c1 c2 c3 c4 c5 f0 f1 f2 f3 f4 f5
                  refine (hF _).mono ?_
                  rintro e w2 ⟨rfl, hb2⟩
                  have B2 := Below.chain B1 hb2
                  have hx2 := hx1.later hb2
                  have hp2 := hp1.later hb2
                  obtain ⟨c0, c1, c2, c3, c4, c5, f0, f1, f2, f3, f4, f5⟩ := hx2
                  rw [HH.out] at c4
                  go_wp2
                  go_ret
                  exact ⟨by rw [HR.out]; rfl, B2⟩
              · have k0' := decide_eq_false k0
                rw [k0'] at HR
                go_enter Tryz.func17, Tryz.ntmps17
                go_wp2_with fail
                generalize w.alloc (.cells #[.slice la x.ls.length lc, .bool x.ov, .int .i64 x.n, .int .i64 x.t, .bool x.has, .int .i64 x.kind] 34) = w0 at *
                have B0 := hb0
                refine (hI _ hp0).mono ?_
                rintro e w1 ⟨rfl, hb1⟩
                have B1 := Below.chain B0 hb1
                have hx1 := hx.later hb1
                have hp1 := hp0.later hb1
                obtain ⟨c0, c1, c2, c3, c4, c5, f0, f1, f2, f3, f4, f5⟩ := hx1
                have hx4 : Hid _ := c4
                rw [HH.out] at c4
                go_wp2_with fail
                have hx1 : BoxX w1 w.heap.size (.slice la x.ls.length lc) x := ⟨c0, c1, c2, c3, hx4.out, c5, f0, f1, f2, f3, f4, f5⟩
                clear c0 c1 c2 c3 c4 c5 f0 f1 f2 f3 f4 f5
                refine (hG _ hp1).mono ?_
                rintro e wz ⟨rfl, rfl⟩
                obtain ⟨c0, c1, c2, c3, c4, c5, f0, f1, f2, f3, f4, f5⟩ := hx1
                have hx4 : Hid _ := c4
                rw [HH.out] at c4
                go_wp2_with fail
                have hx1 : BoxX w1 w.heap.size (.slice la x.ls.length lc) x := ⟨c0, c1, c2, c3, hx4.out, c5, f0, f1, f2, f3, f4, f5⟩
                clear c0 c1 c2 c3 c4 c5 f0 f1 f2 f3 f4 f5
                refine (hN _).mono ?_
                rintro e wz ⟨rfl, rfl⟩
                obtain ⟨c0, c1, c2, c3, c4, c5, f0, f1, f2, f3, f4, f5⟩ := hx1
                have hx4 : Hid _ := c4
                rw [HH.out] at c4
                go_wp2_with fail
                have hx1 : BoxX w1 w.heap.size (.slice la x.ls.length lc) x := ⟨c0, c1, c2, c3, hx4.out, c5, f0, f1, f2, f3, f4, f5⟩
                clear c0 c1 c2 c3 c4 c5 f0 f1 f2 f3 f4 f5
                refine (hF _).mono ?_
                rintro e w2 ⟨rfl, hb2⟩
                have B2 := Below.chain B1 hb2
                have hx2 := hx1.later hb2
                have hp2 := hp1.later hb2
                obtain ⟨c0, c1, c2, c3, c4, c5, f0, f1, f2, f3, f4, f5⟩ := hx2
                rw [HH.out] at c4
                go_wp2
                go_ret
                exact ⟨by rw [HR.out]; rfl, B2⟩
            · rw [hh] at HR
              have HH : Hid _ := hh
              clear hh
              cases Z with
              | false =>
                go_enter Tryz.func17, Tryz.ntmps17
                go_wp2_with fail
                generalize w.alloc (.cells #[.slice la x.ls.length lc, .bool x.ov, .int .i64 x.n, .int .i64 x.t, .bool x.has, .int .i64 x.kind] 34) = w0 at *
                have B0 := hb0
                refine (hI _ hp0).mono ?_
                rintro e w1 ⟨rfl, hb1⟩
                have B1 := Below.chain B0 hb1
                have hx1 := hx.later hb1
                have hp1 := hp0.later hb1
                obtain ⟨c0, c1, c2, c3, c4, c5, f0, f1, f2, f3, f4, f5⟩ := hx1
                have hx4 : Hid _ := c4
                rw [HH.out] at c4
                go_wp2_with fail
                have hx1 : BoxX w1 w.heap.size (.slice la x.ls.length lc) x := ⟨c0, c1, c2, c3, hx4.out, c5, f0, f1, f2, f3, f4, f5⟩
                clear c0 c1 c2 c3 c4 c5 f0 f1 f2 f3 f4 f5
                refine (hG _ hp1).mono ?_
                rintro e wz ⟨rfl, rfl⟩
                obtain ⟨c0, c1, c2, c3, c4, c5, f0, f1, f2, f3, f4, f5⟩ := hx1
                have hx4 : Hid _ := c4
                rw [HH.out] at c4
                go_wp2_with fail
                have hx1 : BoxX w1 w.heap.size (.slice la x.ls.length lc) x := ⟨c0, c1, c2, c3, hx4.out, c5, f0, f1, f2, f3, f4, f5⟩
                clear c0 c1 c2 c3 c4 c5 f0 f1 f2 f3 f4 f5
                refine (hN _).mono ?_
                rintro e wz ⟨rfl, rfl⟩
                obtain ⟨c0, c1, c2, c3, c4, c5, f0, f1, f2, f3, f4, f5⟩ := hx1
                have hx4 : Hid _ := c4
                rw [HH.out] at c4
                go_wp2_with fail
                have hx1 : BoxX w1 w.heap.size (.slice la x.ls.length lc) x := ⟨c0, c1, c2, c3, hx4.out, c5, f0, f1, f2, f3, f4, f5⟩
                clear c0 c1 c2 c3 c4 c5 f0 f1 f2 f3 f4 f5
                refine (hF _).mono ?_
                rintro e w2 ⟨rfl, hb2⟩
                have B2 := Below.chain B1 hb2
                have hx2 := hx1.later hb2
                have hp2 := hp1.later hb2
                obtain ⟨c0, c1, c2, c3, c4, c5, f0, f1, f2, f3, f4, f5⟩ := hx2
                rw [HH.out] at c4
                go_wp2
                go_ret
                exact ⟨by rw [HR.out]; rfl, B2⟩
              | true =>
                by_cases k0 : 0 ≤ x.kind
                · have k0' := decide_eq_true k0
                  rw [k0'] at HR
                  by_cases k1 : x.kind ≤ 2
                  · have k1' := decide_eq_true k1
                    rw [k1'] at HR
                    go_enter Tryz.func17, Tryz.ntmps17
                    go_wp2_with fail
                    generalize w.alloc (.cells #[.slice la x.ls.length lc, .bool x.ov, .int .i64 x.n, .int .i64 x.t, .bool x.has, .int .i64 x.kind] 34) = w0 at *
                    have B0 := hb0
                    refine (hI _ hp0).mono ?_
                    rintro e w1 ⟨rfl, hb1⟩
                    have B1 := Below.chain B0 hb1
                    have hx1 := hx.later hb1
                    have hp1 := hp0.later hb1
                    obtain ⟨c0, c1, c2, c3, c4, c5, f0, f1, f2, f3, f4, f5⟩ := hx1
                    have hx4 : Hid _ := c4
                    rw [HH.out] at c4
                    go_wp2_with fail
                    have hx1 : BoxX w1 w.heap.size (.slice la x.ls.length lc) x := ⟨c0, c1, c2, c3, hx4.out, c5, f0, f1, f2, f3, f4, f5⟩
                    clear c0 c1 c2 c3 c4 c5 f0 f1 f2 f3 f4 f5
                    refine (hG _ hp1).mono ?_
                    rintro e wz ⟨rfl, rfl⟩
                    obtain ⟨c0, c1, c2, c3, c4, c5, f0, f1, f2, f3, f4, f5⟩ := hx1
                    have hx4 : Hid _ := c4
                    rw [HH.out] at c4
                    go_wp2_with fail
                    have hx1 : BoxX w1 w.heap.size (.slice la x.ls.length lc) x := ⟨c0, c1, c2, c3, hx4.out, c5, f0, f1, f2, f3, f4, f5⟩
                    clear c0 c1 c2 c3 c4 c5 f0 f1 f2 f3 f4 f5
                    refine (hN _).mono ?_
                    rintro e wz ⟨rfl, rfl⟩
                    obtain ⟨c0, c1, c2, c3, c4, c5, f0, f1, f2, f3, f4, f5⟩ := hx1
                    have hx4 : Hid _ := c4
                    rw [HH.out] at c4
                    go_wp2_with fail
                    have hx1 : BoxX w1 w.heap.size (.slice la x.ls.length lc) x := ⟨c0, c1, c2, c3, hx4.out, c5, f0, f1, f2, f3, f4, f5⟩
                    clear c0 c1 c2 c3 c4 c5 f0 f1 f2 f3 f4 f5
                    refine (hF _).mono ?_
                    rintro e w2 ⟨rfl, hb2⟩
                    have B2 := Below.chain B1 hb2
                    have hx2 := hx1.later hb2
                    have hp2 := hp1.later hb2
                    obtain ⟨c0, c1, c2, c3, c4, c5, f0, f1, f2, f3, f4, f5⟩ := hx2
                    rw [HH.out] at c4
                    go_wp2
                    go_ret
                    exact ⟨by rw [HR.out]; rfl, B2⟩
                  · have k1' := decide_eq_false k1
                    rw [k1'] at HR
                    go_enter Tryz.func17, Tryz.ntmps17
                    go_wp2_with fail
                    generalize w.alloc (.cells #[.slice la x.ls.length lc, .bool x.ov, .int .i64 x.n, .int .i64 x.t, .bool x.has, .int .i64 x.kind] 34) = w0 at *
                    have B0 := hb0
                    refine (hI _ hp0).mono ?_
                    rintro e w1 ⟨rfl, hb1⟩
                    have B1 := Below.chain B0 hb1
                    have hx1 := hx.later hb1
                    have hp1 := hp0.later hb1
                    obtain ⟨c0, c1, c2, c3, c4, c5, f0, f1, f2, f3, f4, f5⟩ := hx1
                    have hx4 : Hid _ := c4
                    rw [HH.out] at c4
                    go_wp2_with fail
                    have hx1 : BoxX w1 w.heap.size (.slice la x.ls.length lc) x := ⟨c0, c1, c2, c3, hx4.out, c5, f0, f1, f2, f3, f4, f5⟩
                    clear c0 c1 c2 c3 c4 c5 f0 f1 f2 f3 f4 f5
                    refine (hG _ hp1).mono ?_
                    rintro e wz ⟨rfl, rfl⟩
                    obtain ⟨c0, c1, c2, c3, c4, c5, f0, f1, f2, f3, f4, f5⟩ := hx1
                    have hx4 : Hid _ := c4
                    rw [HH.out] at c4
                    go_wp2_with fail
                    have hx1 : BoxX w1 w.heap.size (.slice la x.ls.length lc) x := ⟨c0, c1, c2, c3, hx4.out, c5, f0, f1, f2, f3, f4, f5⟩
                    clear c0 c1 c2 c3 c4 c5 f0 f1 f2 f3 f4 f5
                    refine (hN _).mono ?_
                    rintro e wz ⟨rfl, rfl⟩
                    obtain ⟨c0, c1, c2, c3, c4, c5, f0, f1, f2, f3, f4, f5⟩ := hx1
                    have hx4 : Hid _ := c4
                    rw [HH.out] at c4
                    go_wp2_with fail
                    have hx1 : BoxX w1 w.heap.size (.slice la x.ls.length lc) x := ⟨c0, c1, c2, c3, hx4.out, c5, f0, f1, f2, f3, f4, f5⟩
                    clear c0 c1 c2 c3 c4 c5 f0 f1 f2 f3 f4 f5
                    refine (hF _).mono ?_
                    rintro e w2 ⟨rfl, hb2⟩
                    have B2 := Below.chain B1 hb2
                    have hx2 := hx1.later hb2
                    have hp2 := hp1.later hb2
                    obtain ⟨c0, c1, c2, c3, c4, c5, f0, f1, f2, f3, f4, f5⟩ := hx2
                    rw [HH.out] at c4
                    go_wp2
                    go_ret
                    exact ⟨by rw [HR.out]; rfl, B2⟩
                · have k0' := decide_eq_false k0
                  rw [k0'] at HR
                  go_enter Tryz.func17, Tryz.ntmps17
                  go_wp2_with fail
                  generalize w.alloc (.cells #[.slice la x.ls.length lc, .bool x.ov, .int .i64 x.n, .int .i64 x.t, .bool x.has, .int .i64 x.kind] 34) = w0 at *
                  have B0 := hb0
                  refine (hI _ hp0).mono ?_
                  rintro e w1 ⟨rfl, hb1⟩
                  have B1 := Below.chain B0 hb1
                  have hx1 := hx.later hb1
                  have hp1 := hp0.later hb1
                  obtain ⟨c0, c1, c2, c3, c4, c5, f0, f1, f2, f3, f4, f5⟩ := hx1
                  have hx4 : Hid _ := c4
                  rw [HH.out] at c4
                  go_wp2_with fail
                  have hx1 : BoxX w1 w.heap.size (.slice la x.ls.length lc) x := ⟨c0, c1, c2, c3, hx4.out, c5, f0, f1, f2, f3, f4, f5⟩
                  clear c0 c1 c2 c3 c4 c5 f0 f1 f2 f3 f4 f5
                  refine (hG _ hp1).mono ?_
                  rintro e wz ⟨rfl, rfl⟩
                  obtain ⟨c0, c1, c2, c3, c4, c5, f0, f1, f2, f3, f4, f5⟩ := hx1
                  have hx4 : Hid _ := c4
                  rw [HH.out] at c4
                  go_wp2_with fail
                  have hx1 : BoxX w1 w.heap.size (.slice la x.ls.length lc) x := ⟨c0, c1, c2, c3, hx4.out, c5, f0, f1, f2, f3, f4, f5⟩
                  clear c0 c1 c2 c3 c4 c5 f0 f1 f2 f3 f4 f5
                  refine (hN _).mono ?_
                  rintro e wz ⟨rfl, rfl⟩
                  obtain ⟨c0, c1, c2, c3, c4, c5, f0, f1, f2, f3, f4, f5⟩ := hx1
                  have hx4 : Hid _ := c4
                  rw [HH.out] at c4
                  go_wp2_with fail
                  have hx1 : BoxX w1 w.heap.size (.slice la x.ls.length lc) x := ⟨c0, c1, c2, c3, hx4.out, c5, f0, f1, f2, f3, f4, f5⟩
                  clear c0 c1 c2 c3 c4 c5 f0 f1 f2 f3 f4 f5
                  refine (hF _).mono ?_
                  rintro e w2 ⟨rfl, hb2⟩
                  have B2 := Below.chain B1 hb2
                  have hx2 := hx1.later hb2
                  have hp2 := hp1.later hb2
                  obtain ⟨c0, c1, c2, c3, c4, c5, f0, f1, f2, f3, f4, f5⟩ := hx2
                  rw [HH.out] at c4
                  go_wp2
                  go_ret
                  exact ⟨by rw [HR.out]; rfl, B2⟩
          · have t1' := decide_eq_false t1
            rw [t1'] at HR
            go_enter Tryz.func17, Tryz.ntmps17
            go_wp2_with fail
            generalize w.alloc (.cells #[.slice la x.ls.length lc, .bool x.ov, .int .i64 x.n, .int .i64 x.t, .bool x.has, .int .i64 x.kind] 34) = w0 at *
            have B0 := hb0
            refine (hI _ hp0).mono ?_
            rintro e w1 ⟨rfl, hb1⟩
            have B1 := Below.chain B0 hb1
            have hx1 := hx.later hb1
            have hp1 := hp0.later hb1
            obtain ⟨c0, c1, c2, c3, c4, c5, f0, f1, f2, f3, f4, f5⟩ := hx1
            go_wp2_with fail
            have hx1 : BoxX w1 w.heap.size (.slice la x.ls.length lc) x := ⟨c0, c1, c2, c3, c4, c5, f0, f1, f2, f3, f4, f5⟩
            clear c0 c1 c2 c3 c4 c5 f0 f1 f2 f3 f4 f5
            refine (hG _ hp1).mono ?_
            rintro e wz ⟨rfl, rfl⟩
            obtain ⟨c0, c1, c2, c3, c4, c5, f0, f1, f2, f3, f4, f5⟩ := hx1
            go_wp2_with fail
            have hx1 : BoxX w1 w.heap.size (.slice la x.ls.length lc) x := ⟨c0, c1, c2, c3, c4, c5, f0, f1, f2, f3, f4, f5⟩
            clear c0 c1 c2 c3 c4 c5 f0 f1 f2 f3 f4 f5
            refine (hN _).mono ?_
            rintro e wz ⟨rfl, rfl⟩
            obtain ⟨c0, c1, c2, c3, c4, c5, f0, f1, f2, f3, f4, f5⟩ := hx1
            go_wp2_with fail
            have hx1 : BoxX w1 w.heap.size (.slice la x.ls.length lc) x := ⟨c0, c1, c2, c3, c4, c5, f0, f1, f2, f3, f4, f5⟩
            clear c0 c1 c2 c3 c4 c5 f0 f1 f2 f3 f4 f5
            refine (hF _).mono ?_
            rintro e w2 ⟨rfl, hb2⟩
            have B2 := Below.chain B1 hb2
            have hx2 := hx1.later hb2
            have hp2 := hp1.later hb2
            obtain ⟨c0, c1, c2, c3, c4, c5, f0, f1, f2, f3, f4, f5⟩ := hx2
            go_wp2
            go_ret
            exact ⟨by rw [HR.out]; rfl, B2⟩
        · have t0' := decide_eq_false t0
          rw [t0'] at HR
          go_enter Tryz.func17, Tryz.ntmps17
          go_wp2_with fail
          generalize w.alloc (.cells #[.slice la x.ls.length lc, .bool x.ov, .int .i64 x.n, .int .i64 x.t, .bool x.has, .int .i64 x.kind] 34) = w0 at *
          have B0 := hb0
          refine (hI _ hp0).mono ?_
          rintro e w1 ⟨rfl, hb1⟩
          have B1 := Below.chain B0 hb1
          have hx1 := hx.later hb1
          have hp1 := hp0.later hb1
          obtain ⟨c0, c1, c2, c3, c4, c5, f0, f1, f2, f3, f4, f5⟩ := hx1
          go_wp2_with fail
          have hx1 : BoxX w1 w.heap.size (.slice la x.ls.length lc) x := ⟨c0, c1, c2, c3, c4, c5, f0, f1, f2, f3, f4, f5⟩
          clear c0 c1 c2 c3 c4 c5 f0 f1 f2 f3 f4 f5
          refine (hG _ hp1).mono ?_
          rintro e wz ⟨rfl, rfl⟩
          obtain ⟨c0, c1, c2, c3, c4, c5, f0, f1, f2, f3, f4, f5⟩ := hx1
          go_wp2_with fail
          have hx1 : BoxX w1 w.heap.size (.slice la x.ls.length lc) x := ⟨c0, c1, c2, c3, c4, c5, f0, f1, f2, f3, f4, f5⟩
          clear c0 c1 c2 c3 c4 c5 f0 f1 f2 f3 f4 f5
          refine (hN _).mono ?_
          rintro e wz ⟨rfl, rfl⟩
          obtain ⟨c0, c1, c2, c3, c4, c5, f0, f1, f2, f3, f4, f5⟩ := hx1
          go_wp2_with fail
          have hx1 : BoxX w1 w.heap.size (.slice la x.ls.length lc) x := ⟨c0, c1, c2, c3, c4, c5, f0, f1, f2, f3, f4, f5⟩
          clear c0 c1 c2 c3 c4 c5 f0 f1 f2 f3 f4 f5
          refine (hF _).mono ?_
          rintro e w2 ⟨rfl, hb2⟩
          have B2 := Below.chain B1 hb2
          have hx2 := hx1.later hb2
          have hp2 := hp1.later hb2
          obtain ⟨c0, c1, c2, c3, c4, c5, f0, f1, f2, f3, f4, f5⟩ := hx2
          go_wp2
          go_ret
          exact ⟨by rw [HR.out]; rfl, B2⟩
end Go.Proofs.YtcbjhfnlhpallaaGreatDoor
